"""Tasks: which rows of labels are allowed at the nodes of a network.

A task is a tuple ("task", D, labels, white, black): D colours, for each of
them a number of labels, and for each input of a white and of a black node the
ascending tuple of the rows that are allowed there.
"""

from looksfar.bounds import is_number, read_number
from looksfar.errors import BadTask, BadText

LEAST_COLOURS = 2
MOST_COLOURS = 4
MOST_INPUTS = 4
MOST_LABELS = 60
MOST_ROWS = 4000


def check_task(task):
    """Returns None, or raises BadTask if the value is not a task."""
    if not _is_task(task):
        raise BadTask("not a task")


def turned(task):
    """The task with white and black exchanged."""
    check_task(task)
    word, D, labels, white, black = task
    return (word, D, labels, black, white)


def row_allowed(task, side, number, row):
    """True if the row is allowed at a node of this side with this input."""
    check_task(task)
    _, _, labels, white, black = task
    if side == "white":
        allowed = white
    elif side == "black":
        allowed = black
    else:
        return False
    if not is_number(number, 0, len(allowed) - 1):
        return False
    # (True, 0) is equal to (1, 0), so a row has to be looked at by itself first.
    return _is_row(row, labels) and row in allowed[number]


def write_task(task):
    """The text of the task."""
    check_task(task)
    _, D, labels, white, black = task
    numbers = [D, *labels, len(white), len(black)]
    lines = [" ".join(["task"] + [str(number) for number in numbers])]
    lines.extend([_write_rows("white", rows) for rows in white])
    lines.extend([_write_rows("black", rows) for rows in black])
    return "\n".join(lines)


def read_task(text):
    """The task that the text writes; raises BadText with the place where it goes wrong."""
    lines = text.split("\n")
    head = _read_head(lines[0])
    if head is None:
        raise BadText(0)
    labels, p, q = head
    sides = ["white"] * p + ["black"] * q
    allowed = []
    for place in range(1, len(lines)):
        if place > len(sides):
            raise BadText(place)
        rows = _read_rows(sides[place - 1], lines[place], labels)
        if rows is None:
            raise BadText(place)
        allowed.append(rows)
    if len(allowed) < len(sides):
        raise BadText(len(lines))
    return ("task", len(labels), labels, tuple(allowed[:p]), tuple(allowed[p:]))


def _is_task(task):
    if not isinstance(task, tuple) or len(task) != 5 or task[0] != "task":
        return False
    _, D, labels, white, black = task
    if not _are_labels(D, labels):
        return False
    return _are_inputs(white, labels) and _are_inputs(black, labels)


def _are_labels(D, labels):
    """True if labels tells the numbers of labels for D colours."""
    if not is_number(D, LEAST_COLOURS, MOST_COLOURS):
        return False
    if not isinstance(labels, tuple) or len(labels) != D:
        return False
    rows = 1
    for many in labels:
        if not is_number(many, 1, MOST_LABELS):
            return False
        rows = rows * many
    return rows <= MOST_ROWS


def _are_inputs(allowed, labels):
    """True if allowed is what a task tells of one side."""
    if not isinstance(allowed, tuple) or not is_number(len(allowed), 1, MOST_INPUTS):
        return False
    return all([_are_rows(rows, labels) for rows in allowed])


def _are_rows(rows, labels):
    """True if rows is a tuple of rows of these labels, ascending, each once."""
    if not isinstance(rows, tuple):
        return False
    for at in range(len(rows)):
        if not _is_row(rows[at], labels):
            return False
        if at > 0 and rows[at - 1] >= rows[at]:
            return False
    return True


def _is_row(row, labels):
    """True if row has one label for each colour, below the number of its labels."""
    if not isinstance(row, tuple) or len(row) != len(labels):
        return False
    return all([is_number(label, 0, many - 1) for label, many in zip(row, labels)])


def _write_rows(side, rows):
    """The line that tells the rows of one input."""
    words = [",".join([str(label) for label in row]) for row in rows]
    return " ".join([side] + words)


def _read_head(line):
    """What the first line tells, as (labels, p, q), or None if it is none."""
    words = line.split(" ")
    if words[0] != "task" or len(words) < 4:
        return None
    D, *labels, p, q = [read_number(word, 0, MOST_LABELS) for word in words[1:]]
    if not _are_labels(D, tuple(labels)):
        return None
    if not is_number(p, 1, MOST_INPUTS) or not is_number(q, 1, MOST_INPUTS):
        return None
    return (tuple(labels), p, q)


def _read_rows(side, line, labels):
    """The rows that the line of an input of this side tells, or None if it is none."""
    words = line.split(" ")
    if words[0] != side:
        return None
    rows = tuple([_read_row(word) for word in words[1:]])
    if not _are_rows(rows, labels):
        return None
    return rows


def _read_row(word):
    """The labels that the word writes, with None for what is no label."""
    return tuple([read_number(part, 0, MOST_LABELS - 1) for part in word.split(",")])
