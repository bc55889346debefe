"""Tasks and algorithms for the tests, and what the document tells, worked out otherwise than in the program."""

import itertools
import random

from looksfar.views import all_views

# A few inputs of a task and a table of chance rows are the same in each run.
SEED = 20


def every_row(labels):
    return tuple(itertools.product(*[range(many) for many in labels]))


def relay(steps):
    """Along a road that enters white nodes by colour 1 each label bears the inputs of the last white nodes."""
    many = 2 ** steps
    white = tuple(tuple((a, (2 * a + x) % many) for a in range(many)) for x in (0, 1))
    return ("task", 2, (many, many), white, (tuple((a, a) for a in range(many)),))


def echo(D):
    """Each label is the input of the edge's black node, 0 or 1."""
    labels = (2,) * D
    return ("task", D, labels, (every_row(labels),), ((((0,) * D),), (((1,) * D),)))


def unlike(many):
    """At white nodes the labels are alike, at black ones unlike."""
    rows = every_row((many, many))
    return ("task", 2, (many, many), (tuple((a, b) for a, b in rows if a == b),),
            (tuple((a, b) for a, b in rows if a != b),))


def chance_task(chance, D, labels, p, q, part):
    """A task that has each row with the chance of `part` in 100."""
    def inputs(many):
        return tuple(tuple(row for row in every_row(labels) if chance.randrange(100) < part) for _ in range(many))
    return ("task", D, labels, inputs(p), inputs(q))


def chance_tasks(many, labels_of, part=70):
    """Chance tasks, always the same ones, for numbers of labels out of the list."""
    chance = random.Random(SEED)
    tasks = []
    for _ in range(many):
        labels = chance.choice(labels_of)
        tasks.append(chance_task(chance, len(labels), labels, chance.randint(1, 2), chance.randint(1, 2), part))
    return tasks


def numbers(task, side):
    """The number of colours, of the inputs of the nodes of this side and of those of the other side."""
    p, q = len(task[3]), len(task[4])
    return (task[1], p, q) if side == "white" else (task[1], q, p)


def other(side):
    return {"white": "black", "black": "white"}[side]


def rows_at(task, side):
    return task[3] if side == "white" else task[4]


def made(task, side, reach, rule):
    """The algorithm that gives the row which the rule tells for a view."""
    return ("algorithm", side, reach, {view: rule(view) for view in all_views(*numbers(task, side), reach)})


def chance_algorithm(chance, task, side, reach, part=100):
    """An algorithm of chance rows, in `part` of 100 views an allowed one if there is one."""
    def rule(view):
        allowed = rows_at(task, side)[view[0]]
        if allowed and chance.randrange(100) < part:
            return chance.choice(allowed)
        return tuple(chance.randrange(many) for many in task[2])
    return made(task, side, reach, rule)


def relay_row(view):
    """Solves relay(1) with reach 2 and more: the input one white node ahead, then the own one."""
    return (view[1][0][1][1][0], view[0])


def turned_relay_row(view):
    """Solves the turned relay(1) with reach 1 and more."""
    return (view[1][1][0],) * 2


def turned_relay_2_row(view):
    """Solves the turned relay(2) with reach 3 and more."""
    last = view[1][1]
    return (2 * last[1][0][1][1][0] + last[0],) * 2


def echo_row(view):
    """Solves echo with reach 1 and more."""
    return tuple(branch[0] for branch in view[1])


class Tree:
    """The nodes that a view tells of: their inputs, and for each the nodes behind its edges, by colours."""

    def __init__(self, view):
        self.inputs = []
        self.behind = []
        self.add(view)

    def add(self, part):
        at = len(self.inputs)
        self.inputs.append(part[0])
        self.behind.append({})
        if len(part) > 1:
            for colour, branch in enumerate(part[1], 1):
                if branch is not None:
                    node = self.add(branch)
                    self.behind[at][colour] = node
                    self.behind[node][colour] = at
        return at

    def view(self, D, node, reach, whence=None):
        if reach == 0:
            return (self.inputs[node],)
        parts = []
        for colour in range(1, D + 1):
            if colour == whence:
                parts.append(None)
            else:
                parts.append(self.view(D, self.behind[node][colour], reach - 1, colour))
        return (self.inputs[node], tuple(parts))


def view_behind(view, D, colour, reach):
    """What the node behind the edge of this colour sees within so many steps."""
    tree = Tree(view)
    return tree.view(D, tree.behind[0][colour], reach)


def told_by_others(task, algorithm, view):
    """The row that the algorithm makes at a node of the other side with this view, one step farther."""
    _, _, reach, table = algorithm
    D = task[1]
    return tuple(table[view_behind(view, D, colour, reach)][colour - 1] for colour in range(1, D + 1))


def all_flaws(task, algorithm):
    """All flaws in order."""
    _, side, reach, table = algorithm
    flaws = []
    for view in all_views(*numbers(task, side), reach):
        if table[view] not in rows_at(task, side)[view[0]]:
            flaws.append(("own", view))
    for view in all_views(*numbers(task, other(side)), reach + 1):
        if told_by_others(task, algorithm, view) not in rows_at(task, other(side))[view[0]]:
            flaws.append(("other", view))
    return flaws


def all_sets(many):
    """All sets of labels but the empty one, as ascending tuples, in the order of their numbers."""
    return [tuple(a for a in range(many) if number >> a & 1) for number in range(1, 2 ** many)]


def good(allowed, sets):
    return all(row in allowed for row in itertools.product(*sets))


def greatest(allowed, labels):
    """All rows of sets that are greatest where these rows are allowed, found by looking at each one."""
    rows = []
    for sets in itertools.product(*[all_sets(many) for many in labels]):
        if good(allowed, sets):
            more = [sets[:c] + (sets[c] + (a,),) + sets[c + 1:]
                    for c, many in enumerate(labels) for a in range(many) if a not in sets[c]]
            if not any(good(allowed, wider) for wider in more):
                rows.append(sets)
    return rows


def told_step(task):
    """less(task) and sets_of(task), without their bounds."""
    _, D, labels, white, black = task
    rows = [greatest(allowed, labels) for allowed in black]
    columns = [[names for names in all_sets(many) if any(sets[c] == names for own in rows for sets in own)]
               for c, many in enumerate(labels)]
    own = tuple(tuple(sorted(tuple(column.index(names) for column, names in zip(columns, sets)) for sets in found))
                for found in rows)
    numbered = [range(len(column)) for column in columns]
    other_rows = tuple(
        tuple(row for row in itertools.product(*numbered)
              if any(choice in allowed for choice in itertools.product(
                  *[column[at] for column, at in zip(columns, row)])))
        for allowed in white)
    lesser = ("task", D, tuple(len(column) for column in columns), own, other_rows)
    return lesser, tuple(tuple(column) for column in columns)


def told_greatest(allowed, labels, sets):
    """The row of sets made greatest, or None."""
    if not good(allowed, sets):
        return None
    row = [set(names) for names in sets]
    for c, many in enumerate(labels):
        for a in range(many):
            wider = row[:c] + [row[c] | {a}] + row[c + 1:]
            if good(allowed, wider):
                row = wider
    return tuple(tuple(sorted(names)) for names in row)


def told_down(task, algorithm):
    """The table of led_down, without its bounds; None where a row of sets is not good."""
    _, _, reach, table = algorithm
    sets = told_step(task)[1]
    D = task[1]
    lower = {}
    for own in all_views(*numbers(task, "black"), reach - 1):
        given = []
        for colour in range(1, D + 1):
            given.append({row[colour - 1] for view, row in table.items()
                          if view_behind(view, D, colour, reach - 1) == own})
        row = told_greatest(task[4][own[0]], task[2], given)
        if row is None:
            return None
        lower[own] = tuple(column.index(names) for column, names in zip(sets, row))
    return lower


def told_up(task, algorithm):
    """The table of led_up, without its bounds; None where no row is a choice of the sets."""
    _, _, reach, table = algorithm
    sets = told_step(task)[1]
    D = task[1]
    upper = {}
    for view in all_views(*numbers(task, "white"), reach + 1):
        names = [sets[colour - 1][table[view_behind(view, D, colour, reach)][colour - 1]]
                 for colour in range(1, D + 1)]
        rows = [row for row in task[3][view[0]] if row in list(itertools.product(*names))]
        if not rows:
            return None
        upper[view] = min(rows)
    return upper
