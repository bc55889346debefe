"""The least rows of labels with which all nodes of a small network are content.

The white nodes get their rows one by one. What may still come at a black node is
its rest: the rows that are still possible there, with a mark in the place of each
label that is given. Wherever the rests of all black nodes are the same, it goes on
in the same way, so that nothing is gone through twice.
"""

from looksfar.views import put

MARK = -1


def least_content(task, network):
    """The least list of rows of the white nodes' edges for which the rows at all nodes are allowed, or None."""
    filling = Filling(task, network)
    state = filling.start
    found = []
    for node in range(network[1]):
        step = filling.first_step(state, node)
        if step is None:
            return None
        row, state = step
        found.append(row)
    return found


class Filling:
    """A network whose white nodes get rows; a state has for each black node the number of its rest."""

    def __init__(self, task, network):
        self.links = network[2]
        self.allowed = [task[3][number] for number in network[3]]
        self.rests = []
        self.numbers = {}
        self.known = {}
        self.start = tuple([self.number_of(task[4][number]) for number in network[4]])

    def number_of(self, rest):
        """The number of the rest, a new one for a new rest."""
        if rest not in self.numbers:
            self.numbers[rest] = len(self.rests)
            self.rests.append(rest)
        return self.numbers[rest]

    def narrowed(self, number, colour, label):
        """The number of what is left of the rest if the edge of this colour has this label, None for nothing."""
        key = (number, colour, label)
        if key not in self.known:
            left = tuple([put(row, colour, MARK) for row in self.rests[number] if row[colour - 1] == label])
            self.known[key] = self.number_of(left) if left else None
        return self.known[key]

    def after(self, state, node, row):
        """The state once the white node has this row, or None if a black node cannot be content then."""
        rests = list(state)
        for colour, column in enumerate(self.links, start=1):
            rest = self.narrowed(rests[column[node]], colour, row[colour - 1])
            if rest is None:
                return None
            rests[column[node]] = rest
        return tuple(rests)

    def first_step(self, state, node):
        """The least row for this white node with which those behind it can get rows, and the state then; or None."""
        order = good_order(self.links, list(range(node + 1, len(self.allowed))))
        dead = {}
        for row in self.allowed[node]:
            after = self.after(state, node, row)
            if after is not None and self.can_end(after, order, 0, dead):
                return (row, after)
        return None

    def can_end(self, state, order, place, dead):
        """True if the nodes of the order, from this place on, can get rows; dead has what is known to have no end."""
        if place == len(order):
            return True
        if (place, state) in dead:
            return False
        for row in self.allowed[order[place]]:
            after = self.after(state, order[place], row)
            if after is not None and self.can_end(after, order, place + 1, dead):
                return True
        dead[(place, state)] = True
        return False


def good_order(links, nodes):
    """The white nodes in an order in which few black nodes are half done at a time, so that there are few states."""
    order = []
    left = nodes
    while left:
        _, best = min([(_half_done(links, order + [node], left), node) for node in left])
        order.append(best)
        left = [node for node in left if node != best]
    return order


def _half_done(links, done, nodes):
    """How many black nodes have an edge to a white node that is done, and one to another of the nodes."""
    begun = {column[node]: True for column in links for node in done}
    missing = {column[node]: True for column in links for node in nodes if node not in done}
    return len([node for node in begun if node in missing])
