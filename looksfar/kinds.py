"""One network: what its nodes learn by messages, and which of them no algorithm tells apart."""

from looksfar.bounds import check_reach
from looksfar.errors import BadNetwork
from looksfar.networks import ends_of, inputs_of, is_network
from looksfar.tasks import MOST_INPUTS, SIDES, other_side
from looksfar.views import MOST_REACH, put


def check_plain(network):
    """Returns None, or raises BadNetwork if the value is not a network."""
    if not is_network(network, MOST_INPUTS, MOST_INPUTS):
        raise BadNetwork("not a network")


def views_by_messages(network, rounds):
    """What the white and the black nodes know after so many rounds of messages, a pair of lists of views."""
    check_plain(network)
    check_reach(rounds, 0, MOST_REACH)
    ends = ends_of(network)
    known = {side: [(number,) for number in inputs_of(network, side)] for side in SIDES}
    for _ in range(rounds):
        known = {side: _after_a_round(known, ends, side) for side in SIDES}
    return (known["white"], known["black"])


def kinds(network):
    """For the white and for the black nodes their kinds, the same number for nodes that are alike."""
    check_plain(network)
    ends = ends_of(network)
    parted = {side: _numbered(inputs_of(network, side)) for side in SIDES}
    many = 0
    while _count(parted) > many:
        many = _count(parted)
        parted = {side: _numbered(_signs(parted, ends, side)) for side in SIDES}
    return (parted["white"], parted["black"])


def base_of(network):
    """The network whose nodes are the kinds of the nodes of this one."""
    white, black = kinds(network)
    word, _, links, _, _ = network
    # Any node of a kind tells where the edges of the kind lead.
    firsts = [white.index(kind) for kind in range(max(white) + 1)]
    others = [black.index(kind) for kind in range(max(black) + 1)]
    ways = tuple([tuple([black[column[node]] for node in firsts]) for column in links])
    return (word, len(firsts), ways, _inputs_at(network[3], firsts), _inputs_at(network[4], others))


def _after_a_round(known, ends, side):
    """What the nodes of this side know after one more round."""
    columns = ends[side]
    sent = known[other_side(side)]
    return [
        (known[side][node][0], tuple([_message(sent[column[node]], at + 1) for at, column in enumerate(columns)]))
        for node in range(len(columns[0]))]


def _message(view, colour):
    """What a node that knows this view sends over its edge of this colour."""
    if len(view) == 1:
        return view
    return (view[0], put(view[1], colour, None))


def _numbered(signs):
    """The same number for the same sign, from 0 on as they come."""
    first = {}
    return tuple([first.setdefault(sign, len(first)) for sign in signs])


def _signs(parted, ends, side):
    """For each node of this side what tells it apart: its kind, and those of the nodes behind its edges."""
    own = parted[side]
    other = parted[other_side(side)]
    columns = ends[side]
    return [(own[node],) + tuple([other[column[node]] for column in columns]) for node in range(len(own))]


def _inputs_at(inputs, nodes):
    return tuple([inputs[node] for node in nodes])


def _count(parted):
    """The number of kinds on both sides together."""
    return max(parted["white"]) + max(parted["black"]) + 2
