"""Views: what a node finds in its network within so many steps.

A view of reach 0 is (number,), the node's input; from reach 1 on it is
(number, branches), one branch for each colour. A branch is made like a view,
but for the part of the colour whence one came, which is None.
"""

from looksfar.bounds import check_reach, is_number
from looksfar.choices import choices
from looksfar.errors import BadReach, TooMany

MOST_REACH = 4
MOST_VIEWS = 200000

# A view is a branch that lies behind no edge, so the functions below that take
# a colour make both, being handed this one, which no edge has, for a view.
NO_COLOUR = 0


def all_views(D, own, other, reach):
    """The list of all views of this reach, in order."""
    check_reach(reach, 0, MOST_REACH)
    check_many(D, own, other, reach, NO_COLOUR)
    return _branches(D, own, other, reach, NO_COLOUR)


def all_branches(D, own, other, reach, colour):
    """The list of all branches of this reach behind an edge of this colour, in order."""
    check_reach(reach, 0, MOST_REACH)
    check_many(D, own, other, reach, colour)
    return _branches(D, own, other, reach, colour)


def seen_through(view, colour):
    """The view, of one step less, of the node behind the edge of this colour."""
    if len(view) == 1:
        raise BadReach("a view of reach 0 tells of no other node")
    number, branches = view
    behind = branches[colour - 1]
    if len(behind) == 1:
        return behind
    # The node behind sees this node, too, by two steps less than this one sees.
    back = shortened((number, put(branches, colour, None)), reach_of(view) - 2)
    return (behind[0], put(behind[1], colour, back))


def reach_of(view):
    """The reach of the view."""
    reach = 0
    part = view
    while len(part) > 1:
        reach += 1
        part = [branch for branch in part[1] if branch is not None][0]
    return reach


def is_view(value, D, own, other, reach):
    """True if the value is one of all_views(D, own, other, reach)."""
    check_reach(reach, 0, MOST_REACH)
    return _is_branch(value, D, own, other, reach, NO_COLOUR)


def count_views(D, own, other, reach, colour=NO_COLOUR):
    """How many views of this reach there are, or branches behind an edge of this colour."""
    many = own
    if reach > 0:
        for behind in range(1, D + 1):
            if behind != colour:
                many = many * count_views(D, other, own, reach - 1, behind)
    return many


def check_many(D, own, other, reach, colour=NO_COLOUR):
    """Returns None, or raises TooMany if there are too many views, or branches, to be listed."""
    # They are counted before they are made: they may be far too many to be made.
    if count_views(D, own, other, reach, colour) > MOST_VIEWS:
        raise TooMany("more than 200000 items")


def shortened(view, reach):
    """The view, or the branch, without the nodes that lie farther than this reach."""
    if view is None:
        return None
    if reach == 0:
        return (view[0],)
    return (view[0], tuple([shortened(part, reach - 1) for part in view[1]]))


def put(parts, colour, part):
    """The tuple of parts with this one at this colour."""
    return parts[:colour - 1] + (part,) + parts[colour:]


def _branches(D, own, other, reach, colour):
    """The list of all branches behind an edge of this colour, in order."""
    if reach == 0:
        return [(number,) for number in range(own)]
    parts = []
    for behind in range(1, D + 1):
        if behind == colour:
            parts.append([None])
        else:
            parts.append(_branches(D, other, own, reach - 1, behind))
    rows = choices(parts)
    return [(number, row) for number in range(own) for row in rows]


def _is_branch(value, D, own, other, reach, colour):
    """True if the value is one of _branches(D, own, other, reach, colour)."""
    length = 1 if reach == 0 else 2
    if not isinstance(value, tuple) or len(value) != length:
        return False
    if not is_number(value[0], 0, own - 1):
        return False
    if reach == 0:
        return True
    parts = value[1]
    if not isinstance(parts, tuple) or len(parts) != D:
        return False
    for behind in range(1, D + 1):
        part = parts[behind - 1]
        if behind == colour:
            right = part is None
        else:
            right = _is_branch(part, D, other, own, reach - 1, behind)
        if not right:
            return False
    return True
