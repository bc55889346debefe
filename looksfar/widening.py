"""Algorithms that look farther, or from the other side, or solve two tasks at once."""

from looksfar.algorithms import MOST_STEPS, check_algorithm, row_at, told_row, views_of
from looksfar.choices import choices
from looksfar.errors import BadReach, BadTask, TooMany
from looksfar.tasks import are_labels, check_task, inputs_alike, other_side
from looksfar.views import shortened


def farther(task, algorithm):
    """The algorithm with one step more that gives the same rows."""
    check_algorithm(task, algorithm)
    _check_steps(algorithm)
    _, side, reach, _ = algorithm
    table = {view: row_at(algorithm, shortened(view, reach)) for view in views_of(task, side, reach + 1)}
    return ("algorithm", side, reach + 1, table)


def crossed(task, algorithm):
    """The algorithm of the other side, with one step more, that gives the same labels."""
    check_algorithm(task, algorithm)
    _check_steps(algorithm)
    side = other_side(algorithm[1])
    reach = algorithm[2] + 1
    table = {view: told_row(algorithm, view) for view in views_of(task, side, reach)}
    return ("algorithm", side, reach, table)


def both(first, second):
    """The task whose labels stand for a label of the first and one of the second."""
    check_task(first)
    check_task(second)
    if not inputs_alike(first, second):
        raise BadTask("the tasks do not go together")
    labels = tuple([many * more for many, more in zip(first[2], second[2])])
    if not are_labels(first[1], labels):
        raise TooMany("more labels than a task may have")
    white = [_paired(rows, others, second[2]) for rows, others in zip(first[3], second[3])]
    black = [_paired(rows, others, second[2]) for rows, others in zip(first[4], second[4])]
    return ("task", first[1], labels, tuple(white), tuple(black))


def parts_of(first, second, algorithm):
    """The algorithms for the first and for the second that make up this one for both of them."""
    check_algorithm(both(first, second), algorithm)
    word, side, reach, table = algorithm
    numbers = second[2]
    one = {view: tuple([label // many for label, many in zip(row, numbers)]) for view, row in table.items()}
    two = {view: tuple([label % many for label, many in zip(row, numbers)]) for view, row in table.items()}
    return ((word, side, reach, one), (word, side, reach, two))


def _check_steps(algorithm):
    if algorithm[2] == MOST_STEPS:
        raise BadReach("the algorithm would look too far")


def _paired(rows, others, numbers):
    """The rows that stand for a row of the first and one of the second, the second having these numbers of labels."""
    pairs = choices([rows, others])
    found = [tuple([a * many + b for a, b, many in zip(row, other, numbers)]) for row, other in pairs]
    return tuple(sorted(found))
