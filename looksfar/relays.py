"""Relays: tasks of which it is known how far their nodes must look."""

from looksfar.bounds import check_reach

MOST_RELAY_STEPS = 5


def relay(steps):
    """The task in which labels bear the inputs of the last white nodes of a road, so many of them."""
    check_reach(steps, 1, MOST_RELAY_STEPS)
    many = 1 << steps
    white = [tuple([(label, (2 * label + number) % many) for label in range(many)]) for number in (0, 1)]
    black = tuple([(label, label) for label in range(many)])
    return ("task", 2, (many, many), tuple(white), (black,))
