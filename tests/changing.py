"""Values made of tuples with one part changed, for the tests.

A path tells where a part stands: the indexes that lead to it from outside.
"""

HUGE = 10 ** 5000


def paths_of(value):
    """The paths to the value itself and to all parts of it, at any depth."""
    paths = [()]
    if isinstance(value, tuple):
        for at, part in enumerate(value):
            paths.extend([(at,) + path for path in paths_of(part)])
    return paths


def at_path(value, path):
    """The part at this path."""
    for at in path:
        value = value[at]
    return value


def with_part(value, path, part):
    """The value with another part at this path."""
    if not path:
        return part
    parts = list(value)
    parts[path[0]] = with_part(parts[path[0]], path[1:], part)
    return tuple(parts)


def changed_values(value, parts=()):
    """The value with one place changed, in many ways; parts are put in each place, too."""
    for path in paths_of(value):
        part = at_path(value, path)
        others = [True, False, None, -1, 0, 1, 2, 60, HUGE, "0", "", [], {}, (), (0,), *parts]
        if isinstance(part, tuple):
            others.extend([list(part), part[1:], part[:-1], part + (0,), part + part[-1:], part[::-1], (part,)])
            others.append({at: item for at, item in enumerate(part)})
        for other in others:
            if other.__class__ is not part.__class__ or other != part:
                yield with_part(value, path, other)
