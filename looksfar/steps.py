"""A step taken away: from a task the one that can be solved with one step less.

Where sets of labels are many, a set is held as the number that is the sum of
2^a over its labels a. Likewise allowed rows are held as a cube: the number that
is the sum of 2^k over the places k of its rows among all rows in order.
"""

from looksfar.bounds import is_number, product_of
from looksfar.choices import choices
from looksfar.errors import NoRows, TooMany
from looksfar.tasks import are_labels, check_task, looked_up

# The rows of sets that are gone through are at most 2 to this power.
MOST_SUM = 14


def less(task):
    """The task with one step taken away."""
    check_task(task)
    return step_of(task)[0]


def sets_of(task):
    """For each colour the sets that the labels of less(task) stand for."""
    check_task(task)
    return step_of(task)[1]


def made_greatest(task, number, sets):
    """The row of sets made greatest at this black input, or None if it is not good."""
    check_task(task)
    _, _, labels, _, black = task
    if not is_number(number, 0, len(black) - 1):
        return None
    return grown(looked_up(black)[number], labels, [tuple(sorted(set(names))) for names in sets])


def grown(allowed, labels, sets):
    """The row of sets made greatest where these rows are allowed, or None if it is not good."""
    if not is_good(allowed, sets):
        return None
    row = list(sets)
    for at in range(len(labels)):
        for label in range(labels[at]):
            # The choices without the label are known to be allowed.
            if label not in row[at] and is_good(allowed, row[:at] + [(label,)] + row[at + 1:]):
                row[at] = tuple(sorted(row[at] + (label,)))
    return tuple(row)


def is_good(allowed, sets):
    """True if all choices of the row of sets are allowed."""
    return all([row in allowed for row in choices(sets)])


def step_of(task):
    """The pair of less(task) and sets_of(task)."""
    word, D, labels, white, black = task
    if sum(labels) > MOST_SUM:
        raise TooMany("more rows of sets than are gone through")
    if not any(black):
        raise NoRows("no row is allowed at any black input")
    greatest = [_greatest_rows(_cube(rows, labels), labels) for rows in black]
    columns = [sorted({row[at] for rows in greatest for row in rows}) for at in range(D)]
    many = tuple([len(column) for column in columns])
    if not are_labels(D, many):
        raise TooMany("more sets than a task may have labels")
    own = tuple([tuple([_named(columns, row) for row in rows]) for rows in greatest])
    other = tuple([tuple(_meeting_rows(_cube(rows, labels), labels, columns)) for rows in white])
    sets = tuple([tuple([_labels_in(number) for number in column]) for column in columns])
    return ((word, D, many, own, other), sets)


def _cube(rows, labels):
    cube = 0
    for row in rows:
        place = 0
        for label, many in zip(row, labels):
            place = place * many + label
        cube = cube | 1 << place
    return cube


def _slices(cube, labels):
    """For each label of the first colour the cube of what stands behind it in the rows."""
    size = product_of(labels[1:])
    every = (1 << size) - 1
    return [cube >> label * size & every for label in range(labels[0])]


def _labels_in(number):
    """The labels of the set that has this number."""
    return tuple([label for label in range(number.bit_length()) if number >> label & 1 == 1])


def _greatest_rows(cube, labels):
    """The rows of sets, as numbers, that are greatest where the rows of the cube are allowed, in order."""
    if len(labels) == 1:
        return [(cube,)] if cube > 0 else []
    slices = _slices(cube, labels)
    # shared[k] is the cube of what stands behind every label of the set with the number k.
    shared = [(1 << product_of(labels[1:])) - 1]
    for behind in slices:
        shared = shared + [cubes & behind for cubes in shared]
    found = []
    for number in range(1, len(shared)):
        for rest in _greatest_rows(shared[number], labels[1:]):
            box = _box(rest, labels[1:])
            widest = sum([1 << label for label in range(labels[0]) if slices[label] & box == box])
            if widest == number:
                found.append((number,) + rest)
    return found


def _box(sets, labels):
    """The cube of all choices of the row of sets."""
    box = 1
    size = 1
    for at in reversed(range(len(labels))):
        box = sum([box << label * size for label in _labels_in(sets[at])])
        size = size * labels[at]
    return box


def _named(columns, row):
    """The row of the labels that stand for these sets."""
    return tuple([column.index(number) for column, number in zip(columns, row)])


def _meeting_rows(cube, labels, columns):
    """The rows of labels that stand for sets of which some choice is in the cube, in order."""
    if cube == 0:
        return []
    if not labels:
        return [()]
    slices = _slices(cube, labels)
    rows = []
    for at, number in enumerate(columns[0]):
        met = 0
        for label in _labels_in(number):
            met = met | slices[label]
        rows.extend([(at,) + rest for rest in _meeting_rows(met, labels[1:], columns[1:])])
    return rows
