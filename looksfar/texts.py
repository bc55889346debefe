"""Algorithms, and pairs of tasks and easings, as texts."""

from looksfar.algorithms import MOST_STEPS, check_algorithm, row_at, views_of
from looksfar.bounds import read_number
from looksfar.errors import BadText
from looksfar.tasks import MOST_LABELS, SIDES, check_task, is_row, lines_of, read_lines, read_row, write_row


def read_algorithm(task, text):
    """The algorithm for the task that the text writes; raises BadText with the place where it goes wrong."""
    check_task(task)
    lines = text.split("\n")
    head = _read_head(lines[0])
    if head is None:
        raise BadText(0)
    side, reach = head
    # TooMany, where there are too many, comes ahead of what is wrong behind the first line.
    views = views_of(task, side, reach)
    table = {}
    for place in range(1, len(lines)):
        if place > len(views):
            raise BadText(place)
        row = read_row(lines[place])
        if not is_row(row, task[2]):
            raise BadText(place)
        table[views[place - 1]] = row
    if len(table) < len(views):
        raise BadText(len(lines))
    return ("algorithm", side, reach, table)


def write_algorithm(task, algorithm):
    """The text of the algorithm for the task."""
    check_algorithm(task, algorithm)
    word, side, reach, table = algorithm
    # The order of views is the one in which tuples are compared.
    rows = [write_row(row_at(algorithm, view)) for view in sorted(table)]
    return "\n".join([f"{word} {side} {reach}"] + rows)


def read_pairs(text):
    """The tuple of pairs of a task and an easing that the text writes; raises BadText as read_algorithm."""
    if text == "":
        return ()
    lines = text.split("\n")
    pairs = []
    place = 0
    while place < len(lines):
        task, place = read_lines(lines, place)
        if place == len(lines):
            raise BadText(place)
        easing = _read_easing(lines[place], task[1])
        if easing is None:
            raise BadText(place)
        pairs.append((task, easing))
        place += 1
    return tuple(pairs)


def write_pairs(pairs):
    """The text of the pairs of a task and an easing."""
    lines = []
    for task, easing in pairs:
        lines.extend(lines_of(task))
        lines.append(" ".join(["easing"] + [write_row(names) for names in easing]))
    return "\n".join(lines)


def _read_head(line):
    """The side and the reach that the first line of an algorithm tells, or None."""
    words = line.split(" ")
    if len(words) != 3 or words[0] != "algorithm" or words[1] not in SIDES:
        return None
    reach = read_number(words[2], 0, MOST_STEPS)
    return None if reach is None else (words[1], reach)


def _read_easing(line, D):
    """The easing of D colours that the line tells, or None."""
    words = line.split(" ")
    if len(words) != D + 1 or words[0] != "easing":
        return None
    easing = tuple([read_row(word) for word in words[1:]])
    if not all([len(names) <= MOST_LABELS and None not in names for names in easing]):
        return None
    return easing
