"""Tasks that are the same but for the names of their labels.

The labels of both tasks are parted into kinds, numbers that tell them apart as
far as the rows do; a label can only have the name of a label of the same kind.
"""

from looksfar.errors import TooMany
from looksfar.steps import MOST_SUM
from looksfar.tasks import check_task, inputs_alike

# The kind of two labels that are just taken to be the same.
MARK = -1


def same_up_to_names(first, second):
    """For each colour and label of the first task its name in the second, the least, or None."""
    check_task(first)
    check_task(second)
    if sum(first[2]) > MOST_SUM or sum(second[2]) > MOST_SUM:
        raise TooMany("more names than are gone through")
    return least_names(first, second)


def least_names(first, second):
    """What same_up_to_names gives for tasks, however many labels they have."""
    if not inputs_alike(first, second) or first[2] != second[2]:
        return None
    lines = [_lines(first), _lines(second)]
    kinds = [[at] * many for at, many in enumerate(first[2])]
    return _names(lines, _parted(lines, [kinds, kinds]))


def _lines(task):
    """The rows that are allowed anywhere, each behind the inputs where it is, those of both sides numbered together."""
    inputs = {}
    for number, rows in enumerate(task[3] + task[4]):
        for row in rows:
            inputs[row] = inputs.get(row, ()) + (number,)
    return [(numbers, row) for row, numbers in inputs.items()]


def _names(lines, kinds):
    """The least names that keep to these kinds, a pair of kinds for both tasks, or None."""
    if kinds is None:
        return None
    ours, theirs = kinds
    for at in range(len(ours)):
        for label in range(len(ours[at])):
            like = [name for name in range(len(ours[at])) if theirs[at][name] == ours[at][label]]
            if len(like) > 1:
                return _names_by(lines, kinds, at, label, like)
    return tuple([tuple([column.index(kind) for kind in own]) for own, column in zip(ours, theirs)])


def _names_by(lines, kinds, at, label, like):
    """The least names where the label of this colour has one of the names."""
    for name in like:
        marked = [_marked(kinds[0], at, label), _marked(kinds[1], at, name)]
        names = _names(lines, _parted(lines, marked))
        if names is not None:
            return names
    return None


def _marked(columns, at, label):
    column = columns[at][:label] + [MARK] + columns[at][label + 1:]
    return columns[:at] + [column] + columns[at + 1:]


def _parted(lines, kinds):
    """The kinds parted as far as the rows part them, or None if the two tasks do not have the same."""
    many = 0
    parted = kinds
    while True:
        signs = [_signs(rows, columns) for rows, columns in zip(lines, parted)]
        known = sorted({sign for columns in signs for column in columns for sign in column})
        numbers = {sign: number for number, sign in enumerate(known)}
        parted = [[[numbers[sign] for sign in column] for column in columns] for columns in signs]
        for own, other in zip(parted[0], parted[1]):
            if sorted(own) != sorted(other):
                return None
        if len(known) == many:
            return parted
        many = len(known)


def _signs(lines, columns):
    """For each label what tells it apart: its kind, and the rows in which it stands, with the kinds of their labels."""
    found = [[[] for _ in column] for column in columns]
    for numbers, row in lines:
        line = (numbers, tuple([column[label] for column, label in zip(columns, row)]))
        for at, label in enumerate(row):
            found[at][label].append(line)
    return [
        [(kind, tuple(sorted(rows))) for kind, rows in zip(column, places)]
        for column, places in zip(columns, found)]
