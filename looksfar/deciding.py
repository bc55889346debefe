"""How far nodes must look: not at all, so many steps, or more than any number of steps."""

from looksfar.algorithms import MOST_STEPS, check_views
from looksfar.bounds import check_reach
from looksfar.errors import NoRows, TooMany
from looksfar.leading import raised
from looksfar.renaming import least_names
from looksfar.steps import is_good, less, step_of
from looksfar.tasks import check_task, looked_up

MOST_STEPS_AWAY = 6


def nowhere(task):
    """The least algorithm of reach 0 that solves the task, or None."""
    check_task(task)
    inputs = looked_up(task[4])
    allowed = {row: True for row in task[4][0] if all([row in rows for rows in inputs])}
    kinds = _kinds(task[1], allowed)
    able = [_first_ones(kinds, [row for row in rows if row in allowed]) for rows in task[3]]
    least = _least_rows(allowed, [()] * task[1], able)
    if least is None:
        return None
    return ("algorithm", "white", 0, {(number,): row for number, row in enumerate(least)})


def solved(task, reach):
    """The algorithm of this reach that comes of nowhere with so many steps taken away, or None."""
    check_task(task)
    check_reach(reach, 0, MOST_STEPS)
    check_views(task, "white", reach)
    now = task
    steps = []
    try:
        for _ in range(reach):
            lesser, sets = step_of(now)
            steps.append((now, sets))
            now = lesser
    except NoRows:
        return None
    algorithm = nowhere(now)
    if algorithm is None:
        return None
    for before, sets in reversed(steps):
        algorithm = raised(before, sets, algorithm)
    return algorithm


def tidied(task):
    """The task without rows and labels that are of no use, and for each colour the labels that were kept."""
    check_task(task)
    word, D, _, white, black = task
    struck = True
    while struck:
        own = _with_labels(white, _standing(D, black))
        other = _with_labels(black, _standing(D, own))
        struck = (own, other) != (white, black)
        white, black = own, other
    kept = [tuple(sorted(labels)) for labels in _standing(D, white + black)]
    # A colour has to have a label.
    kept = tuple([labels if len(labels) > 0 else (0,) for labels in kept])
    many = tuple([len(labels) for labels in kept])
    return ((word, D, many, _numbered(white, kept), _numbered(black, kept)), kept)


def least_reach(task, most):
    """What taking away up to so many steps tells of the least reach that solves the task."""
    check_task(task)
    check_reach(most, 0, MOST_STEPS_AWAY)
    tasks = [tidied(task)[0]]
    found = _decided(tasks)
    while found is None and len(tasks) <= most:
        try:
            tasks.append(tidied(less(tasks[-1]))[0])
        except TooMany:
            return ("unknown", len(tasks) - 1)
        found = _decided(tasks)
    if found is None:
        return ("unknown", most)
    return found


def without_rows(task):
    """True if there is an input, of either side, for which no row is allowed."""
    return not all(task[3] + task[4])


def _kinds(D, allowed):
    """For each colour and label the first label with which the same rests of rows are allowed."""
    rests = [{} for _ in range(D)]
    for row in allowed:
        for at in range(D):
            rests[at].setdefault(row[at], []).append(row[:at] + row[at + 1:])
    kinds = []
    for column in rests:
        first = {}
        kinds.append({label: first.setdefault(tuple(column[label]), label) for label in column})
    return kinds


def _first_ones(kinds, rows):
    """The rows without those that have labels of the same kinds as an earlier one, which would do just as well."""
    first = {}
    for row in rows:
        first.setdefault(tuple([column[label] for column, label in zip(kinds, row)]), row)
    return list(first.values())


def _least_rows(allowed, sets, able):
    """The least rows, one of each of the lists, for which with the sets all choices are allowed, or None."""
    if not able:
        return ()
    for row in able[0]:
        wider = _widened(sets, row)
        left = [_fitting(allowed, wider, rows) for rows in able[1:]]
        if all(left):
            rest = _least_rows(allowed, wider, left)
            if rest is not None:
                return (row,) + rest
    return None


def _widened(sets, row):
    """The sets with the labels of the row."""
    return [names if label in names else names + (label,) for names, label in zip(sets, row)]


def _fitting(allowed, sets, rows):
    """Those of the rows with whose labels in the sets all choices are still allowed."""
    return [row for row in rows if is_good(allowed, _widened(sets, row))]


def _standing(D, inputs):
    """For each colour a dict of the labels that stand in a row."""
    return [{row[at]: True for rows in inputs for row in rows} for at in range(D)]


def _with_labels(inputs, known):
    """For each input those of its rows of which all labels are known."""
    return tuple([
        tuple([row for row in rows if all([label in labels for label, labels in zip(row, known)])])
        for rows in inputs])


def _numbered(inputs, kept):
    """The rows with the labels numbered anew, those that were kept in their order."""
    places = [{labels[at]: at for at in range(len(labels))} for labels in kept]
    return tuple([
        tuple([tuple([place[label] for place, label in zip(places, row)]) for row in rows])
        for rows in inputs])


def _decided(tasks):
    """What the last one of the tasks, each with one step less than the one ahead, tells, or None."""
    last = len(tasks) - 1
    if nowhere(tasks[last]) is not None:
        return ("reach", last)
    if without_rows(tasks[last]):
        return ("never", last, last)
    for number in range(last):
        if least_names(tasks[last], tasks[number]) is not None:
            return ("never", number, last)
    return None
