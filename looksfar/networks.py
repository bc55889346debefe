"""Finite networks: what their nodes see, and the labels that algorithms give there.

A network is a tuple ("network", n, links, white, black): n white and n black
nodes; for each colour the black nodes to which the white nodes' edges lead; and
the inputs of the white and of the black nodes.
"""

from looksfar.algorithms import check_algorithm, row_at
from looksfar.bounds import check_reach, is_number
from looksfar.errors import BadNetwork
from looksfar.tasks import LEAST_COLOURS, MOST_COLOURS, check_task, is_row, looked_up, other_side
from looksfar.views import MOST_REACH, NO_COLOUR

MOST_NODES = 400


def check_network(network, task):
    """Returns None, or raises BadNetwork if the value is not a network, or none for the task."""
    check_task(task)
    if not is_network(network, len(task[3]), len(task[4])) or len(network[2]) != task[1]:
        raise BadNetwork("not a network for the task")


def view_in(network, side, node, reach):
    """The view that the node of this side has in the network."""
    check_reach(reach, 0, MOST_REACH)
    return _seen(network, ends_of(network), side, node, reach)


def labelled(task, network, algorithm):
    """The list of the rows of labels of the white nodes' edges that the algorithm gives there."""
    check_network(network, task)
    check_algorithm(task, algorithm)
    _, n, links, _, _ = network
    _, side, reach, _ = algorithm
    ends = ends_of(network)
    rows = [row_at(algorithm, _seen(network, ends, side, node, reach)) for node in range(n)]
    if side == "white":
        return rows
    return [tuple([rows[column[node]][at] for at, column in enumerate(links)]) for node in range(n)]


def is_content(task, network, rows):
    """True if with these rows of labels of the white nodes' edges the rows at all nodes are allowed."""
    check_network(network, task)
    _, n, _, white, black = network
    if not isinstance(rows, (list, tuple)) or len(rows) != n:
        return False
    if not all([is_row(row, task[2]) for row in rows]):
        return False
    allowed = looked_up(task[3])
    if not all([row in allowed[number] for row, number in zip(rows, white)]):
        return False
    allowed = looked_up(task[4])
    return all([row in allowed[number] for row, number in zip(_black_rows(network, rows), black)])


def network_showing(task, flaw):
    """A network whose node 0, of the side where the flaw is, has the view of the flaw."""
    check_task(task)
    kind, view = flaw
    told = {"white": [], "black": []}
    _tell(told, task[1], "white" if kind == "own" else "black", view)
    white, black = told["white"], told["black"]
    # A node without an edge is joined to its twin, and twins are joined where their nodes are.
    links = tuple([
        tuple([_end_or(ends[at], len(black) + node) for node, (_, ends) in enumerate(white)]
              + [node if ends[at] is None else len(black) + ends[at] for node, (_, ends) in enumerate(black)])
        for at in range(task[1])])
    own = tuple([number for number, _ in white] + [0] * len(black))
    other = tuple([number for number, _ in black] + [0] * len(white))
    return ("network", len(white) + len(black), links, own, other)


def is_network(value, p, q):
    """True if the value is a network with inputs below p of white nodes and below q of black ones."""
    if not isinstance(value, tuple) or len(value) != 5 or value[0] != "network":
        return False
    _, n, links, white, black = value
    if not is_number(n, 1, MOST_NODES) or not isinstance(links, tuple):
        return False
    if not is_number(len(links), LEAST_COLOURS, MOST_COLOURS):
        return False
    if not all([is_order(column, n) for column in links]):
        return False
    return _are_numbers(white, n, p - 1) and _are_numbers(black, n, q - 1)


def is_order(value, many):
    """True if the value is a tuple of the numbers below many, each once."""
    return _are_numbers(value, many, many - 1) and len(set(value)) == many


def ends_of(network):
    """For each side, by colours, the nodes to which the edges of the side's nodes lead."""
    _, n, links, _, _ = network
    back = []
    for column in links:
        ends = [0] * n
        for white, black in enumerate(column):
            ends[black] = white
        back.append(tuple(ends))
    return {"white": links, "black": tuple(back)}


def inputs_of(network, side):
    """The inputs of the nodes of this side."""
    return network[3] if side == "white" else network[4]


def _are_numbers(value, many, most):
    """True if the value is a tuple of so many numbers from 0 to most."""
    if not isinstance(value, tuple) or len(value) != many:
        return False
    return all([is_number(number, 0, most) for number in value])


def _seen(network, ends, side, node, reach, colour=NO_COLOUR):
    """The node's view, or the branch that stands for it behind an edge of this colour."""
    number = inputs_of(network, side)[node]
    if reach == 0:
        return (number,)
    parts = []
    for behind, column in enumerate(ends[side], start=1):
        if behind == colour:
            parts.append(None)
        else:
            parts.append(_seen(network, ends, other_side(side), column[node], reach - 1, behind))
    return (number, tuple(parts))


def _black_rows(network, rows):
    """The rows of labels of the black nodes' edges, these being those of the white nodes' edges."""
    columns = ends_of(network)["black"]
    return [tuple([rows[column[node]][at] for at, column in enumerate(columns)]) for node in range(network[1])]


def _tell(told, D, side, branch):
    """Adds the node and all nodes that the branch tells of; returns the node's number on its side.

    told has for each side a list of pairs: a node's input, and for each colour
    the number of the node behind that edge, or None.
    """
    node = len(told[side])
    ends = [None] * D
    told[side].append((branch[0], ends))
    if len(branch) > 1:
        for at, part in enumerate(branch[1]):
            if part is not None:
                ends[at] = _tell(told, D, other_side(side), part)
                told[other_side(side)][ends[at]][1][at] = node
    return node


def _end_or(end, twin):
    return twin if end is None else end
