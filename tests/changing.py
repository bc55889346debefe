"""Values made of tuples with one part changed, for the tests.

A path tells where a part stands: the indexes that lead to it from outside.
"""


def paths_of(value):
    """The paths to the value itself and to all parts of it, at any depth."""
    paths = [()]
    if isinstance(value, tuple):
        for at, part in enumerate(value):
            paths.extend([(at,) + path for path in paths_of(part)])
    return paths


def at_path(value, path):
    """The part at this path."""
    for at in path:
        value = value[at]
    return value


def with_part(value, path, part):
    """The value with another part at this path."""
    if not path:
        return part
    parts = list(value)
    parts[path[0]] = with_part(parts[path[0]], path[1:], part)
    return tuple(parts)
