"""Tasks: which rows of labels are allowed at the nodes of a network.

A task is a tuple ("task", D, labels, white, black): D colours, for each of
them a number of labels, and for each input of a white and of a black node the
ascending tuple of the rows that are allowed there.
"""

from looksfar.bounds import is_number, product_of, read_number
from looksfar.errors import BadTask, BadText

LEAST_COLOURS = 2
MOST_COLOURS = 4
MOST_INPUTS = 4
MOST_LABELS = 60
MOST_ROWS = 4000
SIDES = ("white", "black")


def check_task(task):
    """Returns None, or raises BadTask if the value is not a task."""
    if not is_task(task):
        raise BadTask("not a task")


def turned(task):
    """The task with white and black exchanged."""
    check_task(task)
    return sides_exchanged(task)


def row_allowed(task, side, number, row):
    """True if the row is allowed at a node of this side with this input."""
    check_task(task)
    if side not in SIDES:
        return False
    allowed = rows_of(task, side)
    if not is_number(number, 0, len(allowed) - 1):
        return False
    # (True, 0) is equal to (1, 0), so a row has to be looked at by itself first.
    return is_row(row, task[2]) and row in allowed[number]


def write_task(task):
    """The text of the task."""
    check_task(task)
    return "\n".join(lines_of(task))


def read_task(text):
    """The task that the text writes; raises BadText with the place where it goes wrong."""
    lines = text.split("\n")
    task, place = read_lines(lines, 0)
    if place < len(lines):
        raise BadText(place)
    return task


def lines_of(task):
    """The lines of the text of the task."""
    _, D, labels, white, black = task
    numbers = [D, *labels, len(white), len(black)]
    lines = [" ".join(["task"] + [str(number) for number in numbers])]
    lines.extend([_write_rows("white", rows) for rows in white])
    lines.extend([_write_rows("black", rows) for rows in black])
    return lines


def read_lines(lines, start):
    """The task that the lines from this place on write, and the place behind it; raises BadText as read_task."""
    head = _read_head(lines[start])
    if head is None:
        raise BadText(start)
    labels, p, q = head
    allowed = []
    place = start
    for side in ["white"] * p + ["black"] * q:
        place += 1
        if place == len(lines):
            raise BadText(place)
        rows = _read_rows(side, lines[place], labels)
        if rows is None:
            raise BadText(place)
        allowed.append(rows)
    return (("task", len(labels), labels, tuple(allowed[:p]), tuple(allowed[p:])), place + 1)


def sides_exchanged(task):
    """What turned gives for a task."""
    word, D, labels, white, black = task
    return (word, D, labels, black, white)


def rows_of(task, side):
    """For each input of the nodes of this side the rows that are allowed there."""
    return task[3] if side == "white" else task[4]


def other_side(side):
    """The side of the nodes next to those of this side."""
    return "black" if side == "white" else "white"


def inputs_alike(first, second):
    """True if the tasks have the same D and numbers of inputs."""
    return first[1] == second[1] and len(first[3]) == len(second[3]) and len(first[4]) == len(second[4])


def looked_up(inputs):
    """For each input its rows as a dict, which is looked up at once also where there are many."""
    return [{row: True for row in rows} for rows in inputs]


def is_task(task):
    """True if the value is a task."""
    if not isinstance(task, tuple) or len(task) != 5 or task[0] != "task":
        return False
    _, D, labels, white, black = task
    if not are_labels(D, labels):
        return False
    return _are_inputs(white, labels) and _are_inputs(black, labels)


def are_labels(D, labels):
    """True if labels tells the numbers of labels for D colours."""
    if not is_number(D, LEAST_COLOURS, MOST_COLOURS):
        return False
    if not isinstance(labels, tuple) or len(labels) != D:
        return False
    if not all([is_number(many, 1, MOST_LABELS) for many in labels]):
        return False
    return product_of(labels) <= MOST_ROWS


def _are_inputs(allowed, labels):
    """True if allowed is what a task tells of one side."""
    if not isinstance(allowed, tuple) or not is_number(len(allowed), 1, MOST_INPUTS):
        return False
    return all([_are_rows(rows, labels) for rows in allowed])


def _are_rows(rows, labels):
    """True if rows is a tuple of rows of these labels, ascending, each once."""
    if not isinstance(rows, tuple):
        return False
    for at in range(len(rows)):
        if not is_row(rows[at], labels):
            return False
        if at > 0 and rows[at - 1] >= rows[at]:
            return False
    return True


def is_row(row, labels):
    """True if row has one label for each colour, below the number of its labels."""
    if not isinstance(row, tuple) or len(row) != len(labels):
        return False
    return all([is_number(label, 0, many - 1) for label, many in zip(row, labels)])


def write_row(row):
    """The word that writes the labels."""
    return ",".join([str(label) for label in row])


def read_row(word):
    """The labels that the word writes, with None for what is no label."""
    return tuple([read_number(part, 0, MOST_LABELS - 1) for part in word.split(",")])


def _write_rows(side, rows):
    """The line that tells the rows of one input."""
    return " ".join([side] + [write_row(row) for row in rows])


def _read_head(line):
    """What the first line tells, as (labels, p, q), or None if it is none."""
    words = line.split(" ")
    if words[0] != "task" or len(words) < 4:
        return None
    D, *labels, p, q = [read_number(word, 0, MOST_LABELS) for word in words[1:]]
    if not are_labels(D, tuple(labels)):
        return None
    if not is_number(p, 1, MOST_INPUTS) or not is_number(q, 1, MOST_INPUTS):
        return None
    return (tuple(labels), p, q)


def _read_rows(side, line, labels):
    """The rows that the line of an input of this side tells, or None if it is none."""
    words = line.split(" ")
    if words[0] != side:
        return None
    rows = tuple([read_row(word) for word in words[1:]])
    if not _are_rows(rows, labels):
        return None
    return rows
