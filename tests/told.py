"""What the document tells, worked out otherwise than in the program: by going through all that there is."""

import itertools

from looksfar.errors import BadTask
from looksfar.tasks import check_task
from looksfar.views import all_views
from tests.examples import numbers, other, rows_at


class Tree:
    """The nodes that a view tells of: their inputs, and for each the nodes behind its edges, by colours."""

    def __init__(self, view):
        self.inputs = []
        self.behind = []
        self.add(view)

    def add(self, part):
        at = len(self.inputs)
        self.inputs.append(part[0])
        self.behind.append({})
        if len(part) > 1:
            for colour, branch in enumerate(part[1], 1):
                if branch is not None:
                    node = self.add(branch)
                    self.behind[at][colour] = node
                    self.behind[node][colour] = at
        return at

    def view(self, D, node, reach, whence=None):
        if reach == 0:
            return (self.inputs[node],)
        parts = []
        for colour in range(1, D + 1):
            if colour == whence:
                parts.append(None)
            else:
                parts.append(self.view(D, self.behind[node][colour], reach - 1, colour))
        return (self.inputs[node], tuple(parts))


def view_behind(view, D, colour, reach):
    """What the node behind the edge of this colour sees within so many steps."""
    tree = Tree(view)
    return tree.view(D, tree.behind[0][colour], reach)


def told_by_others(task, algorithm, view):
    """The row that the algorithm makes at a node of the other side with this view, one step farther."""
    _, _, reach, table = algorithm
    D = task[1]
    return tuple(table[view_behind(view, D, colour, reach)][colour - 1] for colour in range(1, D + 1))


def all_flaws(task, algorithm):
    """All flaws in order."""
    _, side, reach, table = algorithm
    flaws = []
    for view in all_views(*numbers(task, side), reach):
        if table[view] not in rows_at(task, side)[view[0]]:
            flaws.append(("own", view))
    for view in all_views(*numbers(task, other(side)), reach + 1):
        if told_by_others(task, algorithm, view) not in rows_at(task, other(side))[view[0]]:
            flaws.append(("other", view))
    return flaws


def all_sets(many):
    """All sets of labels but the empty one, as ascending tuples, in the order of their numbers."""
    return [tuple(a for a in range(many) if number >> a & 1) for number in range(1, 2 ** many)]


def good(allowed, sets):
    return all(row in allowed for row in itertools.product(*sets))


def greatest(allowed, labels):
    """All rows of sets that are greatest where these rows are allowed, found by looking at each one."""
    rows = []
    for sets in itertools.product(*[all_sets(many) for many in labels]):
        if good(allowed, sets):
            more = [sets[:c] + (sets[c] + (a,),) + sets[c + 1:]
                    for c, many in enumerate(labels) for a in range(many) if a not in sets[c]]
            if not any(good(allowed, wider) for wider in more):
                rows.append(sets)
    return rows


def told_step(task):
    """less(task) and sets_of(task), without their bounds."""
    _, D, labels, white, black = task
    rows = [greatest(allowed, labels) for allowed in black]
    columns = [[names for names in all_sets(many) if any(sets[c] == names for own in rows for sets in own)]
               for c, many in enumerate(labels)]
    own = tuple(tuple(sorted(tuple(column.index(names) for column, names in zip(columns, sets)) for sets in found))
                for found in rows)
    numbered = [range(len(column)) for column in columns]
    other_rows = tuple(
        tuple(row for row in itertools.product(*numbered)
              if any(choice in allowed for choice in itertools.product(
                  *[column[at] for column, at in zip(columns, row)])))
        for allowed in white)
    lesser = ("task", D, tuple(len(column) for column in columns), own, other_rows)
    return lesser, tuple(tuple(column) for column in columns)


def told_greatest(allowed, labels, sets):
    """The row of sets made greatest, or None."""
    if not good(allowed, sets):
        return None
    row = [set(names) for names in sets]
    for c, many in enumerate(labels):
        for a in range(many):
            wider = row[:c] + [row[c] | {a}] + row[c + 1:]
            if good(allowed, wider):
                row = wider
    return tuple(tuple(sorted(names)) for names in row)


def told_down(task, algorithm):
    """The table of led_down, without its bounds; None where a row of sets is not good."""
    _, _, reach, table = algorithm
    sets = told_step(task)[1]
    D = task[1]
    lower = {}
    for own in all_views(*numbers(task, "black"), reach - 1):
        given = []
        for colour in range(1, D + 1):
            given.append({row[colour - 1] for view, row in table.items()
                          if view_behind(view, D, colour, reach - 1) == own})
        row = told_greatest(task[4][own[0]], task[2], given)
        if row is None:
            return None
        lower[own] = tuple(column.index(names) for column, names in zip(sets, row))
    return lower


def told_up(task, algorithm):
    """The table of led_up, without its bounds; None where no row is a choice of the sets."""
    _, _, reach, table = algorithm
    sets = told_step(task)[1]
    D = task[1]
    upper = {}
    for view in all_views(*numbers(task, "white"), reach + 1):
        names = [sets[colour - 1][table[view_behind(view, D, colour, reach)][colour - 1]]
                 for colour in range(1, D + 1)]
        rows = [row for row in task[3][view[0]] if row in list(itertools.product(*names))]
        if not rows:
            return None
        upper[view] = min(rows)
    return upper


def told_both(first, second):
    """both(first, second), without its bounds."""
    labels = tuple(m * n for m, n in zip(first[2], second[2]))

    def inputs(place):
        found = []
        for rows, others in zip(first[place], second[place]):
            found.append(tuple(
                row for row in itertools.product(*[range(many) for many in labels])
                if tuple(label // m for label, m in zip(row, second[2])) in rows
                and tuple(label % m for label, m in zip(row, second[2])) in others))
        return tuple(found)
    return ("task", first[1], labels, inputs(3), inputs(4))


def renamed(task, names):
    """The task with its labels exchanged."""
    def inputs(place):
        return tuple(tuple(sorted(tuple(column[label] for column, label in zip(names, row)) for row in rows))
                     for rows in task[place])
    return task[:3] + (inputs(3), inputs(4))


def told_names(first, second):
    """The least exchange of names, all being gone through in order."""
    if first[1:3] != second[1:3]:
        return None
    for names in itertools.product(*[list(itertools.permutations(range(many))) for many in first[2]]):
        if renamed(first, names) == second:
            return names
    return None


def told_nowhere(task):
    """The table of nowhere, all choices of rows being gone through in order; or None."""
    _, _, _, white, black = task
    for rows in itertools.product(*white):
        if all(row in allowed for allowed in black for row in itertools.product(*zip(*rows))):
            return {(number,): row for number, row in enumerate(rows)}
    return None


def told_solved(task, reach):
    """The table of solved, without its bounds; or None."""
    tasks = [task]
    for _ in range(reach):
        if not any(tasks[-1][4]):
            return None
        tasks.append(told_step(tasks[-1])[0])
    table = told_nowhere(tasks[-1])
    for steps in range(reach):
        if table is not None:
            table = told_up(tasks[reach - 1 - steps], ("algorithm", "white", steps, table))
    return table


def told_tidied(task):
    """The pair of tidied, one row being struck at a time."""
    word, D, _, white, black = task
    sides = [[list(rows) for rows in white], [list(rows) for rows in black]]

    def useless():
        for own, behind in (sides, sides[::-1]):
            for rows in own:
                for row in rows:
                    for c in range(D):
                        if not any(known[c] == row[c] for allowed in behind for known in allowed):
                            return rows, row
        return None
    found = useless()
    while found is not None:
        found[0].remove(found[1])
        found = useless()
    kept = []
    for c in range(D):
        labels = sorted({row[c] for side in sides for rows in side for row in rows})
        kept.append(tuple(labels) or (0,))
    white, black = [
        tuple(tuple(tuple(labels.index(label) for labels, label in zip(kept, row)) for row in rows) for rows in side)
        for side in sides]
    return ((word, D, tuple(len(labels) for labels in kept), white, black), tuple(kept))


def told_least_reach(task, most):
    """least_reach, for tasks small enough that it meets no bounds but those of less."""
    tasks = [told_tidied(task)[0]]
    while True:
        i = len(tasks) - 1
        if told_nowhere(tasks[i]) is not None:
            return ("reach", i)
        if () in tasks[i][3] + tasks[i][4]:
            return ("never", i, i)
        for j in range(i):
            if told_names(tasks[i], tasks[j]) is not None:
                return ("never", j, i)
        if i == most:
            return ("unknown", most)
        if sum(tasks[i][2]) > 14:
            return ("unknown", i)
        tasks.append(told_tidied(told_step(tasks[i])[0])[0])
        if too_large(tasks[-1]):
            return ("unknown", i)


def too_large(task):
    many = 1
    for labels in task[2]:
        many *= labels
    return max(task[2]) > 60 or many > 4000


def told_easing(first, second, easing):
    """Whether it is an easing, for tasks."""
    if first[1] != second[1] or [len(side) for side in first[3:]] != [len(side) for side in second[3:]]:
        return False
    if not isinstance(easing, tuple) or len(easing) != first[1]:
        return False
    for names, many, most in zip(easing, first[2], second[2]):
        if not isinstance(names, tuple) or len(names) != many:
            return False
        if any(name.__class__ is not int or name not in range(most) for name in names):
            return False
    return all(tuple(names[label] for names, label in zip(easing, row)) in allowed
               for place in (3, 4) for rows, allowed in zip(first[place], second[place]) for row in rows)


def told_tasks(task, pairs, own_to_less=False):
    """The given task and those of the pairs of a paper, or None if the pairs are not right.

    Easings lead to the pair's own task, or, in papers of quickness, from it.
    """
    tasks = [task]
    for pair in pairs:
        if not isinstance(pair, tuple) or len(pair) != 2 or not is_right_task(pair[0]):
            return None
        tidy = told_tidied(tasks[-1])[0]
        if sum(tidy[2]) > 14 or not any(tidy[4]):
            return None
        lesser = told_step(tidy)[0]
        first, second = (pair[0], lesser) if own_to_less else (lesser, pair[0])
        if too_large(lesser) or not told_easing(first, second, pair[1]):
            return None
        tasks.append(pair[0])
    return tasks


def is_right_task(value):
    try:
        check_task(value)
    except BadTask:
        return False
    return True


def told_slow(task, reach, paper):
    """Whether it is a paper of slowness."""
    if not isinstance(paper, tuple) or len(paper) != reach:
        return False
    tasks = told_tasks(task, paper)
    return tasks is not None and told_nowhere(tasks[-1]) is None


def told_never(task, paper):
    """Whether it is a paper of never."""
    if not isinstance(paper, tuple) or len(paper) != 2 or not isinstance(paper[1], tuple):
        return False
    k, pairs = paper
    tasks = told_tasks(task, pairs)
    if tasks is None or k.__class__ is not int or k not in range(-1, len(pairs)):
        return False
    if k == -1:
        tidy = told_tidied(tasks[-1])[0]
        return () in tidy[3] + tidy[4] and all(told_nowhere(each) is None for each in tasks)
    return tasks[k] == tasks[-1] and all(told_nowhere(each) is None for each in tasks[:-1])


def told_plain_pairs(task, many):
    """The pairs of slow_paper, whatever the last task; or None."""
    pairs = []
    for _ in range(many):
        tidy = told_tidied(pairs[-1][0] if pairs else task)[0]
        if sum(tidy[2]) > 14 or not any(tidy[4]):
            return None
        lesser = told_step(tidy)[0]
        if too_large(lesser):
            return None
        pairs.append((lesser, tuple(tuple(range(labels)) for labels in lesser[2])))
    return tuple(pairs)


def told_never_paper(task, most):
    """The paper of never, or None."""
    answer = told_least_reach(task, most)
    if answer[0] != "never":
        return None
    _, j, i = answer
    pairs = told_plain_pairs(task, i)
    if i == j:
        return (-1, pairs)
    tidy = [told_tidied(each)[0] for each in [task] + [pair[0] for pair in pairs]]
    names = told_names(tidy[i], tidy[j])
    lesser, sets = told_step(tidy[j])
    easing = tuple(
        tuple(column.index(tuple(sorted(name[label] for label in labels))) for labels in own)
        for own, column, name in zip(told_step(tidy[i])[1], sets, names))
    return (j + 1, pairs + ((lesser, easing),))


def told_quick(task, reach, paper):
    """Whether it is a paper of quickness."""
    if not isinstance(paper, tuple) or len(paper) != reach:
        return False
    tasks = told_tasks(task, paper, True)
    return tasks is not None and told_nowhere(tasks[-1]) is not None


def told_quick_table(task, paper):
    """The table of the algorithm that comes of a right paper of quickness."""
    tasks = [task] + [pair[0] for pair in paper]
    table = told_nowhere(tasks[-1])
    for steps, (ahead, pair) in enumerate(zip(tasks[-2::-1], paper[::-1])):
        tidy, kept = told_tidied(ahead)
        exchanged = {view: tuple(names[label] for names, label in zip(pair[1], row)) for view, row in table.items()}
        table = told_up(tidy, ("algorithm", "white", steps, exchanged))
        table = {view: tuple(labels[label] for labels, label in zip(kept, row)) for view, row in table.items()}
    return table
