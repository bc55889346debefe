"""Networks for the tests, and what the document tells of them, worked out otherwise than in the program."""

import itertools


def network_of(links, white, black):
    return ("network", len(white), links, white, black)


def chance_network(chance, n, D, p, q):
    links = tuple(tuple(chance.sample(range(n), n)) for _ in range(D))
    return network_of(links, tuple(chance.randrange(p) for _ in range(n)), tuple(chance.randrange(q) for _ in range(n)))


def ring(white, black):
    """A ring of 2 n nodes: colour 1 leads from a white node to the black one ahead, colour 2 to the next one."""
    n = len(white)
    return network_of((tuple(range(n)), tuple((i + 1) % n for i in range(n))), tuple(white), tuple(black))


def lone(D, white=0, black=0):
    """Two nodes, joined by D edges."""
    return network_of(((0,),) * D, (white,), (black,))


# Rings, several edges between two nodes, parts that are not joined, 2 to 4 colours.
NETWORKS = (
    lone(2), lone(3, 1, 2), lone(4, 0, 1),
    ring((0, 1, 0), (0, 0, 1)), ring((0, 0, 0, 0), (0, 0, 0, 0)), ring((0, 1), (1, 0)),
    network_of(((0, 1, 2), (0, 2, 1)), (0, 1, 0), (0, 0, 0)),
    network_of(((0, 1, 2), (0, 1, 2), (1, 2, 0)), (0, 0, 1), (1, 0, 0)),
    network_of(((0, 1, 2), (0, 2, 1), (1, 2, 0)), (0, 1, 2), (1, 0, 3)),
    network_of(((2, 0, 1, 3), (2, 0, 1, 3), (0, 2, 3, 1), (3, 1, 0, 2)), (0, 1, 0, 1), (1, 1, 0, 0)),
    network_of(((0, 1), (1, 0), (0, 1), (0, 1)), (0, 0), (0, 0)),
)


def inputs_at(network, side):
    return network[3] if side == "white" else network[4]


def behind(network, side, node, colour):
    """The side and the number of the node behind the edge of this colour."""
    column = network[2][colour - 1]
    return ("black", column[node]) if side == "white" else ("white", column.index(node))


def walked(network, side, node, reach, whence=None):
    """The view of the node, found by walking; the branch, if one has come over the edge of the colour whence."""
    number = inputs_at(network, side)[node]
    if reach == 0:
        return (number,)
    parts = []
    for colour in range(1, len(network[2]) + 1):
        if colour == whence:
            parts.append(None)
        else:
            parts.append(walked(network, *behind(network, side, node, colour), reach - 1, colour))
    return (number, tuple(parts))


def is_right_network(value, colours, p, q):
    """Whether it is a network with one of these numbers of colours, looked at as the document tells it."""
    def numbers(part, many, below):
        return (part.__class__ is tuple and len(part) == many
                and all(number.__class__ is int and number in range(below) for number in part))
    if value.__class__ is not tuple or len(value) != 5 or value[0] != "network":
        return False
    n = value[1]
    if n.__class__ is not int or n not in range(1, 401):
        return False
    if value[2].__class__ is not tuple or len(value[2]) not in colours:
        return False
    if not all(numbers(column, n, n) and sorted(column) == list(range(n)) for column in value[2]):
        return False
    return numbers(value[3], n, p) and numbers(value[4], n, q)


def rows_of_black(network, rows):
    """The rows of labels of the black nodes' edges."""
    D = len(network[2])
    return [tuple(rows[behind(network, "black", node, colour)[1]][colour - 1] for colour in range(1, D + 1))
            for node in range(network[1])]


def told_content(task, network, rows):
    """Whether the rows at all nodes are allowed."""
    return (all(row in task[3][x] for row, x in zip(rows, network[3]))
            and all(row in task[4][y] for row, y in zip(rows_of_black(network, rows), network[4])))


def view_numbers(network, reach):
    """For each side a list of numbers, the same for nodes whose views of this reach are the same."""
    known = {}

    def number_of(value):
        return known.setdefault(value, len(known))
    D = len(network[2])
    places = [(side, node, whence) for side in ("white", "black") for node in range(network[1])
              for whence in (None, *range(1, D + 1))]
    ways = {(side, node, colour): behind(network, side, node, colour)
            for side, node, colour in places if colour is not None}
    seen = {place: number_of((0, inputs_at(network, place[0])[place[1]])) for place in places}
    for steps in range(1, reach + 1):
        seen = {(side, node, whence): number_of((steps, inputs_at(network, side)[node], tuple(
            None if colour == whence else seen[ways[side, node, colour] + (colour,)]
            for colour in range(1, D + 1)))) for side, node, whence in places}
    return {side: [seen[side, node, None] for node in range(network[1])] for side in ("white", "black")}


def told_kinds(network):
    """The pair of kinds, by views of reach 2 n - 2."""
    numbers = view_numbers(network, 2 * network[1] - 2)
    pair = []
    for side in ("white", "black"):
        ahead = []
        for number in numbers[side]:
            if number not in ahead:
                ahead.append(number)
        pair.append(tuple(ahead.index(number) for number in numbers[side]))
    return tuple(pair)


def told_base(network):
    """The network of the kinds; fails if nodes of a kind do not go together."""
    white, black = told_kinds(network)
    links = []
    for column in network[2]:
        ends = {(white[node], black[end]) for node, end in enumerate(column)}
        assert len(ends) == max(white) + 1
        links.append(tuple(end for _, end in sorted(ends)))
    own = sorted(set(zip(white, network[3])))
    other = sorted(set(zip(black, network[4])))
    return network_of(tuple(links), tuple(number for _, number in own), tuple(number for _, number in other))


def told_cover(network, turns):
    """The network with k copies of each node."""
    k = len(turns[0][0])
    links = []
    for column, turned in zip(network[2], turns):
        ends = {}
        for i, end in enumerate(column):
            for s in range(k):
                ends[i * k + s] = end * k + turned[i][s]
        links.append(tuple(ends[node] for node in range(network[1] * k)))
    white, black = [tuple(number for number in inputs for _ in range(k)) for inputs in network[3:]]
    return network_of(tuple(links), white, black)


def chance_turns(chance, network, k):
    return tuple(tuple(tuple(chance.sample(range(k), k)) for _ in range(network[1])) for _ in network[2])


def told_least_content(task, network):
    """The least list of rows that are allowed at all nodes, all lists being gone through in order; or None."""
    for rows in itertools.product(*[task[3][x] for x in network[3]]):
        if told_content(task, network, rows):
            return list(rows)
    return None


def least_content_by_turns(task, network):
    """The same, white node by white node: a row is passed over if a black node has then all its labels, but no row."""
    D = len(network[2])
    ends = [[behind(network, "black", node, colour)[1] for colour in range(1, D + 1)] for node in range(network[1])]

    def filled(rows):
        if len(rows) == network[1]:
            return rows
        done = len(rows)
        for row in task[3][network[3][done]]:
            now = rows + [row]
            told = [(y, tuple(now[end][at] for at, end in enumerate(own)))
                    for y, own in zip(network[4], ends) if max(own) == done]
            if all(each in task[4][y] for y, each in told):
                found = filled(now)
                if found is not None:
                    return found
        return None
    return filled([])


def told_showing(D, kind, view):
    """The network of [21]: its nodes are named by their places in the view, its twins by ("twin", place)."""
    side = "white" if kind == "own" else "black"
    nodes = []
    edges = {}

    def tell(part, own, whence):
        at = len(nodes)
        nodes.append((own, part[0]))
        if whence is not None:
            edges[at, whence[1]] = whence[0]
            edges[whence] = at
        if len(part) > 1:
            for colour, branch in enumerate(part[1], 1):
                if branch is not None:
                    tell(branch, "black" if own == "white" else "white", (at, colour))
    tell(view, side, None)
    names = {}
    for own in ("white", "black"):
        names[own] = [at for at, node in enumerate(nodes) if node[0] == own]
        names[own] += [("twin", at) for at, node in enumerate(nodes) if node[0] != own]
    for (at, colour), end in list(edges.items()):
        edges[("twin", at), colour] = ("twin", end)
    for at in range(len(nodes)):
        for colour in range(1, D + 1):
            if (at, colour) not in edges:
                edges[at, colour] = ("twin", at)
                edges[("twin", at), colour] = at
    links = tuple(tuple(names["black"].index(edges[name, colour]) for name in names["white"])
                  for colour in range(1, D + 1))
    inputs = [tuple(0 if isinstance(name, tuple) else nodes[name][1] for name in names[own])
              for own in ("white", "black")]
    return network_of(links, *inputs)
