"""Algorithms: which row of labels a node gives for what it sees.

An algorithm is a tuple ("algorithm", side, reach, table): table is a dict that
has a row for each view of this reach of a node of this side.
"""

from looksfar.bounds import is_number
from looksfar.errors import BadAlgorithm
from looksfar.tasks import SIDES, check_task, is_row, looked_up, other_side, rows_of
from looksfar.views import all_views, check_many, count_views, is_view, seen_through

MOST_STEPS = 3


def check_algorithm(task, algorithm):
    """Returns None, or raises BadAlgorithm if the value is not an algorithm for the task."""
    check_task(task)
    if not _is_algorithm(task, algorithm):
        raise BadAlgorithm("not an algorithm for the task")


def row_at(algorithm, view):
    """The row that the algorithm gives for the view."""
    return algorithm[3][view]


def flaw_of(task, algorithm):
    """The first flaw of the algorithm, or None if it solves the task."""
    check_algorithm(task, algorithm)
    _, side, reach, _ = algorithm
    behind = other_side(side)
    check_views(task, behind, reach + 1)
    allowed = looked_up(rows_of(task, side))
    for view in views_of(task, side, reach):
        if row_at(algorithm, view) not in allowed[view[0]]:
            return ("own", view)
    allowed = looked_up(rows_of(task, behind))
    for view in views_of(task, behind, reach + 1):
        if told_row(algorithm, view) not in allowed[view[0]]:
            return ("other", view)
    return None


def is_flaw(task, algorithm, flaw):
    """True if the value is a flaw of the algorithm."""
    check_algorithm(task, algorithm)
    _, side, reach, _ = algorithm
    if not isinstance(flaw, tuple) or len(flaw) != 2:
        return False
    kind, view = flaw
    if kind == "own":
        if not _is_view_of(task, side, reach, view):
            return False
        return row_at(algorithm, view) not in rows_of(task, side)[view[0]]
    if kind == "other":
        behind = other_side(side)
        if not _is_view_of(task, behind, reach + 1, view):
            return False
        return told_row(algorithm, view) not in rows_of(task, behind)[view[0]]
    return False


def told_row(algorithm, view):
    """The row of the labels that the views of the nodes around tell for the edges of the node with this view."""
    table = algorithm[3]
    colours = range(1, len(view[1]) + 1)
    return tuple([table[seen_through(view, colour)][colour - 1] for colour in colours])


def views_of(task, side, reach):
    """The list of all views of this reach of the task's nodes of this side, in order."""
    return all_views(task[1], len(rows_of(task, side)), len(rows_of(task, other_side(side))), reach)


def check_views(task, side, reach):
    """Returns None, or raises TooMany if there are too many such views to be listed."""
    check_many(task[1], len(rows_of(task, side)), len(rows_of(task, other_side(side))), reach)


def _is_view_of(task, side, reach, value):
    return is_view(value, task[1], len(rows_of(task, side)), len(rows_of(task, other_side(side))), reach)


def _is_algorithm(task, algorithm):
    if not isinstance(algorithm, tuple) or len(algorithm) != 4 or algorithm[0] != "algorithm":
        return False
    _, side, reach, table = algorithm
    if side not in SIDES or not is_number(reach, 0, MOST_STEPS) or not isinstance(table, dict):
        return False
    # As many views as there are, each another one: so none is left out.
    if len(table) != count_views(task[1], len(rows_of(task, side)), len(rows_of(task, other_side(side))), reach):
        return False
    for view, row in table.items():
        if not _is_view_of(task, side, reach, view) or not is_row(row, task[2]):
            return False
    return True
