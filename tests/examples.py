"""Tasks and algorithms for the tests."""

import itertools
import random

from looksfar.views import all_views

# So that the chance tasks are the same in each run.
SEED = 20


def every_row(labels):
    return tuple(itertools.product(*[range(many) for many in labels]))


def relay(steps):
    """Along a road that enters white nodes by colour 1 each label bears the inputs of the last white nodes."""
    many = 2 ** steps
    white = tuple(tuple((a, (2 * a + x) % many) for a in range(many)) for x in (0, 1))
    return ("task", 2, (many, many), white, (tuple((a, a) for a in range(many)),))


def echo(D):
    """Each label is the input of the edge's black node, 0 or 1."""
    labels = (2,) * D
    return ("task", D, labels, (every_row(labels),), ((((0,) * D),), (((1,) * D),)))


def unlike(many):
    """At white nodes the labels are alike, at black ones unlike."""
    rows = every_row((many, many))
    return ("task", 2, (many, many), (tuple((a, b) for a, b in rows if a == b),),
            (tuple((a, b) for a, b in rows if a != b),))


def chance_task(chance, D, labels, p, q, part):
    """A task that has each row with the chance of `part` in 100."""
    def inputs(many):
        return tuple(tuple(row for row in every_row(labels) if chance.randrange(100) < part) for _ in range(many))
    return ("task", D, labels, inputs(p), inputs(q))


def chance_tasks(many, labels_of, part=70):
    """Chance tasks, always the same ones, for numbers of labels out of the list."""
    chance = random.Random(SEED)
    tasks = []
    for _ in range(many):
        labels = chance.choice(labels_of)
        tasks.append(chance_task(chance, len(labels), labels, chance.randint(1, 2), chance.randint(1, 2), part))
    return tasks


def numbers(task, side):
    """The number of colours, of the inputs of the nodes of this side and of those of the other side."""
    p, q = len(task[3]), len(task[4])
    return (task[1], p, q) if side == "white" else (task[1], q, p)


def other(side):
    return {"white": "black", "black": "white"}[side]


def rows_at(task, side):
    return task[3] if side == "white" else task[4]


def made(task, side, reach, rule):
    """The algorithm that gives the row which the rule tells for a view."""
    return ("algorithm", side, reach, {view: rule(view) for view in all_views(*numbers(task, side), reach)})


def chance_algorithm(chance, task, side, reach, part=100):
    """An algorithm of chance rows, in `part` of 100 views an allowed one if there is one."""
    def rule(view):
        allowed = rows_at(task, side)[view[0]]
        if allowed and chance.randrange(100) < part:
            return chance.choice(allowed)
        return tuple(chance.randrange(many) for many in task[2])
    return made(task, side, reach, rule)


def relay_row(view):
    """Solves relay(1) with reach 2 and more: the input one white node ahead, then the own one."""
    return (view[1][0][1][1][0], view[0])


def turned_relay_row(view):
    """Solves the turned relay(1) with reach 1 and more."""
    return (view[1][1][0],) * 2


def turned_relay_2_row(view):
    """Solves the turned relay(2) with reach 3 and more."""
    last = view[1][1]
    return (2 * last[1][0][1][1][0] + last[0],) * 2


def echo_row(view):
    """Solves echo with reach 1 and more."""
    return tuple(branch[0] for branch in view[1])
