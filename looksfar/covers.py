"""Covers of a network, and the rows of labels with which all nodes of a network are content."""

from looksfar.bounds import product_of
from looksfar.content import least_content
from looksfar.errors import BadNetwork, TooMany
from looksfar.kinds import base_of, check_plain, kinds
from looksfar.networks import MOST_NODES, check_network, is_order

MOST_FILLED = 10
MOST_PRODUCT = 64


def cover_of(network, turns):
    """The network with so many copies of each node, whose edges lead to copies as the turns tell."""
    check_plain(network)
    word, n, links, white, black = network
    if not _are_turns(turns, len(links), n):
        raise BadNetwork("not turns for the network")
    k = len(turns[0][0])
    if k * n > MOST_NODES:
        raise BadNetwork("more nodes than a network may have")
    ways = tuple([
        tuple([column[node] * k + turn for node in range(n) for turn in rows[node]])
        for column, rows in zip(links, turns)])
    return (word, k * n, ways, _copied(white, k), _copied(black, k))


def content_rows(task, network):
    """The least list of rows of the white nodes' edges with which all nodes are content, or None."""
    check_network(network, task)
    _check_size(task, network)
    return least_content(task, network)


def even_rows(task, network):
    """The list of rows in which alike nodes have the same one, as content_rows of the base tells, or None."""
    check_network(network, task)
    base = base_of(network)
    _check_size(task, base)
    rows = least_content(task, base)
    if rows is None:
        return None
    return [rows[kind] for kind in kinds(network)[0]]


def _are_turns(turns, D, n):
    """True if the value has for each colour and white node the numbers below k, each once, for one k above 0."""
    if not isinstance(turns, tuple) or len(turns) != D:
        return False
    if not all([isinstance(rows, tuple) and len(rows) == n for rows in turns]):
        return False
    first = turns[0][0]
    if not isinstance(first, tuple) or len(first) == 0:
        return False
    return all([is_order(row, len(first)) for rows in turns for row in rows])


def _copied(inputs, k):
    return tuple([number for number in inputs for _ in range(k)])


def _check_size(task, network):
    if network[1] > MOST_FILLED or product_of(task[2]) > MOST_PRODUCT:
        raise TooMany("more rows than are gone through")
