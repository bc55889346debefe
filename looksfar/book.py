"""Books: facts about tasks that were looked at, and the bounds of least reaches that follow from them."""

from looksfar.algorithms import flaw_of
from looksfar.easings import check_easing, check_never, check_slow
from looksfar.errors import BadAlgorithm, BadEasing
from looksfar.tasks import check_task, sides_exchanged


class Book:
    """Keeps facts, each as a tuple (tasks, bounds).

    tasks are one task, whose bounds are told, or two, with an easing of the first
    to the second. Bounds are a tuple (low, high, never).
    """

    def __init__(self):
        self._facts = []

    def solve(self, task, algorithm):
        """Keeps that the algorithm solves the task, or raises BadAlgorithm if it has a flaw."""
        if flaw_of(task, algorithm) is not None:
            raise BadAlgorithm("the algorithm has a flaw")
        _, side, reach, _ = algorithm
        own = task if side == "white" else sides_exchanged(task)
        self._facts.append(((own,), (0, reach, False)))

    def bar(self, task, reach, paper):
        """Keeps that no algorithm of this reach solves the task, or raises BadEasing if the paper is not right."""
        if not check_slow(task, reach, paper):
            raise BadEasing("no paper of slowness")
        self._facts.append(((task,), (reach + 1, None, False)))

    def close(self, task, paper):
        """Keeps that no algorithm solves the task, or raises BadEasing if the paper is not right."""
        if not check_never(task, paper):
            raise BadEasing("no paper of never")
        self._facts.append(((task,), (0, None, True)))

    def ease(self, first, second, easing):
        """Keeps that there is this easing of the first task to the second, or raises BadEasing if it is none."""
        if not check_easing(first, second, easing):
            raise BadEasing("not an easing of the first task to the second")
        self._facts.append(((first, second), (0, None, False)))

    def take_back(self):
        """Takes the last fact away, if there is one."""
        if len(self._facts) > 0:
            self._facts.pop()

    def bounds(self, task):
        """What follows of the least reach of the task: ("never",) or ("between", low, high)."""
        check_task(task)
        numbers = _numbered([task] + [each for tasks, _ in self._facts for each in tasks])
        known = [(0, None, False) for _ in numbers]
        # A task and its turned one tell of each other, but for one step.
        ways = [(number, numbers[sides_exchanged(each)], 1) for each, number in numbers.items()]
        for about, told in self._facts:
            at = numbers[about[0]]
            known[at] = _joined(known[at], told)
            if len(about) == 2:
                ways.append((at, numbers[about[1]], 0))
                ways.append((numbers[sides_exchanged(about[0])], numbers[sides_exchanged(about[1])], 0))
        low, high, never = _followed(known, ways)[numbers[task]]
        return ("never",) if never else ("between", low, high)


def _numbered(tasks):
    """A dict with a number for each of the tasks and of their turned ones, from 0 on."""
    numbers = {}
    for task in tasks:
        for each in (task, sides_exchanged(task)):
            numbers.setdefault(each, len(numbers))
    return numbers


def _followed(known, ways):
    """The bounds by numbers of tasks, with all that follows from these ones.

    A way (at, to, more) is there if an algorithm of a reach for the task at is known
    to make one for the task to that looks at most so many steps more.
    """
    bounds = list(known)
    changed = True
    while changed:
        changed = False
        for at, to, more in ways:
            first, second = bounds[at], bounds[to]
            bounds[at] = _joined(first, (second[0] - more, None, second[2]))
            high = None if first[1] is None else first[1] + more
            bounds[to] = _joined(bounds[to], (0, high, False))
            if (bounds[at], bounds[to]) != (first, second):
                changed = True
    return bounds


def _joined(first, second):
    """The bounds that tell what both of these tell."""
    highs = [high for high in (first[1], second[1]) if high is not None]
    return (max(first[0], second[0]), min(highs) if highs else None, first[2] or second[2])
