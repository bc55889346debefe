"""Algorithms led down to the task with one step taken away, and led up again."""

from looksfar.algorithms import MOST_STEPS, check_algorithm, told_row, views_of
from looksfar.errors import BadAlgorithm, BadReach
from looksfar.steps import grown, step_of
from looksfar.tasks import check_task, looked_up
from looksfar.views import seen_through


def led_down(task, algorithm):
    """The algorithm for less(task), with one step less, that comes of this white one for the task."""
    check_algorithm(task, algorithm)
    _check_white(algorithm)
    if algorithm[2] == 0:
        raise BadReach("an algorithm of reach 0 cannot be led down")
    _, sets = step_of(task)
    places = [{column[at]: at for at in range(len(column))} for column in sets]
    allowed = looked_up(task[4])
    known = {}
    table = {}
    for view, given in _given_sets(algorithm).items():
        key = (view[0], given)
        if key not in known:
            row = grown(allowed[view[0]], task[2], given)
            if row is None:
                raise BadAlgorithm("the algorithm does not solve the task")
            known[key] = tuple([place[names] for place, names in zip(places, row)])
        table[view] = known[key]
    return ("algorithm", "white", algorithm[2] - 1, table)


def led_up(task, algorithm):
    """The algorithm for the task, with one step more, that comes of this white one for less(task)."""
    check_task(task)
    lesser, sets = step_of(task)
    check_algorithm(lesser, algorithm)
    _check_white(algorithm)
    if algorithm[2] == MOST_STEPS:
        raise BadReach("the algorithm led up would look too far")
    return raised(task, sets, algorithm)


def raised(task, sets, algorithm):
    """The algorithm led up to the task, the labels that it gives standing for these sets; TooMany as in all_views."""
    reach = algorithm[2] + 1
    known = {}
    table = {}
    for view in views_of(task, "white", reach):
        key = (view[0], told_row(algorithm, view))
        if key not in known:
            row = _least_choice(task[3][view[0]], [column[at] for column, at in zip(sets, key[1])])
            if row is None:
                raise BadAlgorithm("the algorithm does not solve the task with one step taken away")
            known[key] = row
        table[view] = known[key]
    return ("algorithm", "white", reach, table)


def _check_white(algorithm):
    if algorithm[1] != "white":
        raise BadAlgorithm("only white algorithms are led")


def _given_sets(algorithm):
    """For each view that a node of the other side may have, the sets of the labels that it may get on its edges."""
    given = {}
    for view, row in algorithm[3].items():
        for at in range(len(row)):
            behind = seen_through(view, at + 1)
            if behind not in given:
                given[behind] = [{} for _ in row]
            given[behind][at][row[at]] = True
    return {view: tuple([tuple(sorted(names)) for names in given[view]]) for view in given}


def _least_choice(rows, sets):
    """The first of the rows that is a choice of the sets, or None."""
    for row in rows:
        if all([label in names for label, names in zip(row, sets)]):
            return row
    return None
