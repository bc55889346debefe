"""Easings of a task to another one, and papers, made of them, of what no algorithm can do."""

from looksfar.algorithms import check_algorithm
from looksfar.bounds import check_reach, is_number
from looksfar.deciding import MOST_STEPS_AWAY, least_reach, nowhere, tidied, without_rows
from looksfar.errors import BadEasing, NoRows, TooMany
from looksfar.renaming import least_names
from looksfar.steps import less, step_of
from looksfar.tasks import check_task, inputs_alike, is_task, looked_up


def check_easing(first, second, easing):
    """True if the value is an easing of the first task to the second."""
    check_task(first)
    check_task(second)
    return is_easing(first, second, easing)


def eased(first, second, easing, algorithm):
    """The algorithm for the first task with its labels exchanged, so that it is one for the second."""
    check_task(first)
    check_task(second)
    check_algorithm(first, algorithm)
    if not is_easing(first, second, easing):
        raise BadEasing("not an easing of the first task to the second")
    return relabelled(easing, algorithm)


def check_slow(task, reach, paper):
    """True if the value is a paper of slowness for the task and the reach."""
    check_task(task)
    check_reach(reach, 0, MOST_STEPS_AWAY)
    if not isinstance(paper, tuple) or len(paper) != reach:
        return False
    tasks = _tasks_of(task, paper)
    return tasks is not None and nowhere(tasks[-1]) is None


def slow_paper(task, reach):
    """A paper of slowness for the task and the reach, or None."""
    check_task(task)
    check_reach(reach, 0, MOST_STEPS_AWAY)
    return plain_paper(task, reach, False)


def check_never(task, paper):
    """True if the value is a paper of never for the task."""
    check_task(task)
    if not isinstance(paper, tuple) or len(paper) != 2:
        return False
    k, pairs = paper
    if not isinstance(pairs, tuple) or not is_number(k, -1, len(pairs) - 1):
        return False
    tasks = _tasks_of(task, pairs)
    if tasks is None:
        return False
    if k == -1:
        right = without_rows(tidied(tasks[-1])[0])
    else:
        right = tasks[k] == tasks[-1]
    # The last task of a round is one of those ahead.
    return right and all([nowhere(each) is None for each in tasks])


def never_paper(task, most):
    """A paper of never for the task, or None if least_reach does not tell that there is one."""
    found = least_reach(task, most)
    if found[0] != "never":
        return None
    _, j, i = found
    pairs = _plain_pairs(task, i)
    if j == i:
        return (-1, pairs)
    tasks = [task] + [pair[0] for pair in pairs]
    return (j + 1, pairs + (_closing_pair(tidied(tasks[i])[0], tidied(tasks[j])[0]),))


def is_easing(first, second, easing):
    """True if the value is an easing of the first task to the second."""
    if not inputs_alike(first, second) or not isinstance(easing, tuple) or len(easing) != first[1]:
        return False
    for names, many, most in zip(easing, first[2], second[2]):
        if not isinstance(names, tuple) or len(names) != many:
            return False
        if not all([is_number(name, 0, most - 1) for name in names]):
            return False
    for rows, allowed in zip(first[3] + first[4], looked_up(second[3] + second[4])):
        if not all([_exchanged(easing, row) in allowed for row in rows]):
            return False
    return True


def relabelled(easing, algorithm):
    """The algorithm with its labels exchanged."""
    word, side, reach, table = algorithm
    return (word, side, reach, {view: _exchanged(easing, row) for view, row in table.items()})


def plain_paper(task, reach, quick):
    """The pairs whose easings leave all labels as they are; None where less raises or they end otherwise than told.

    For a paper of quickness the last task has an algorithm of reach 0, for one of slowness it has none.
    """
    try:
        pairs = _plain_pairs(task, reach)
    except (NoRows, TooMany):
        return None
    last = pairs[-1][0] if reach > 0 else task
    return pairs if (nowhere(last) is not None) == quick else None


def _exchanged(easing, row):
    """The row with its labels exchanged."""
    return tuple([names[label] for names, label in zip(easing, row)])


def _tasks_of(task, pairs):
    """The given task and those of the pairs, or None if a pair is not right."""
    tasks = [task]
    for pair in pairs:
        if not isinstance(pair, tuple) or len(pair) != 2 or not is_task(pair[0]):
            return None
        try:
            lesser = less(tidied(tasks[-1])[0])
        except (NoRows, TooMany):
            return None
        if not is_easing(lesser, pair[0], pair[1]):
            return None
        tasks.append(pair[0])
    return tasks


def _plain_pairs(task, many):
    """So many pairs, the tasks being less of the tidied ones ahead, the easings leaving all labels as they are."""
    now = task
    pairs = []
    for _ in range(many):
        now = less(tidied(now)[0])
        pairs.append((now, tuple([tuple(range(labels)) for labels in now[2]])))
    return tuple(pairs)


def _closing_pair(last, like):
    """The pair that leads from the last task to the one behind `like`, which is the same up to names."""
    names = least_names(last, like)
    task, sets = step_of(like)
    _, own = step_of(last)
    easing = []
    for known, column, exchanges in zip(own, sets, names):
        easing.append(tuple([column.index(tuple(sorted([exchanges[label] for label in labels]))) for labels in known]))
    return (task, tuple(easing))
