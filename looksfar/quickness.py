"""Papers of quickness: how an algorithm comes of steps taken away, with easings between them."""

from looksfar.algorithms import MOST_STEPS, check_views
from looksfar.bounds import check_reach
from looksfar.deciding import nowhere, tidied
from looksfar.easings import is_easing, plain_paper, relabelled
from looksfar.errors import BadEasing, NoRows, TooMany
from looksfar.leading import raised
from looksfar.steps import step_of
from looksfar.tasks import check_task, is_task


def check_quick(task, reach, paper):
    """True if the value is a paper of quickness for the task and the reach."""
    check_task(task)
    check_reach(reach, 0, MOST_STEPS)
    if not isinstance(paper, tuple) or len(paper) != reach:
        return False
    return _steps_of(task, paper) is not None and nowhere(_last_task(task, paper)) is not None


def quick_algorithm(task, paper):
    """The algorithm for the task that comes of the paper of quickness."""
    check_task(task)
    if not isinstance(paper, tuple) or len(paper) > MOST_STEPS:
        raise BadEasing("no paper of quickness")
    steps = _steps_of(task, paper)
    if steps is None:
        raise BadEasing("a pair of the paper is not right")
    algorithm = nowhere(_last_task(task, paper))
    if algorithm is None:
        raise BadEasing("the last task has no algorithm of reach 0")
    check_views(task, "white", len(paper))
    for tidy, kept, sets, easing in reversed(steps):
        # A label of the tidied task has the number in the task ahead that stands in kept.
        algorithm = relabelled(kept, raised(tidy, sets, relabelled(easing, algorithm)))
    return algorithm


def quick_paper(task, reach):
    """A paper of quickness for the task and the reach, or None."""
    check_task(task)
    check_reach(reach, 0, MOST_STEPS)
    return plain_paper(task, reach, True)


def _last_task(task, paper):
    return paper[-1][0] if len(paper) > 0 else task


def _steps_of(task, pairs):
    """For each pair the tidied task ahead, its kept labels, the sets of the step from it, and the easing.

    None if a pair is not right.
    """
    ahead = task
    steps = []
    for pair in pairs:
        if not isinstance(pair, tuple) or len(pair) != 2 or not is_task(pair[0]):
            return None
        tidy, kept = tidied(ahead)
        try:
            lesser, sets = step_of(tidy)
        except (NoRows, TooMany):
            return None
        if not is_easing(pair[0], lesser, pair[1]):
            return None
        steps.append((tidy, kept, sets, pair[1]))
        ahead = pair[0]
    return steps
