"""all_views, all_branches, seen_through, reach_of and is_view of looksfar.views."""

import copy
import itertools
import unittest

from looksfar import errors
from looksfar.views import all_branches, all_views, is_view, reach_of, seen_through
from tests.changing import at_path, paths_of, with_part

NO_REACH = (-1, 5, -10 ** 5000, 10 ** 5000, True, False, None, "", "1", (), (1,), [1], {})

# Three white and three black nodes: LINKS[colour - 1][white] is the black node.
LINKS = ((0, 1, 2), (0, 2, 1), (1, 2, 0))
WHITE = (0, 1, 2)
BLACK = (1, 0, 3)


def behind(side, node, colour):
    """The side and the number of the node behind the edge of this colour."""
    if side == "white":
        return ("black", LINKS[colour - 1][node])
    return ("white", LINKS[colour - 1].index(node))


def found(D, side, node, reach, whence):
    """What a node of this network finds, told as the document tells it; whence is None for a view."""
    number = (WHITE if side == "white" else BLACK)[node]
    if reach == 0:
        return (number,)
    parts = []
    for colour in range(1, D + 1):
        if colour == whence:
            parts.append(None)
        else:
            parts.append(found(D, *behind(side, node, colour), reach - 1, colour))
    return (number, tuple(parts))


def items_told(D, own, other, reach, whence):
    """The list of views, or of branches behind a colour, written out otherwise than in the program."""
    if reach == 0:
        return [(number,) for number in range(own)]
    choices = []
    for colour in range(1, D + 1):
        choices.append([None] if colour == whence else items_told(D, other, own, reach - 1, colour))
    return [(number, row) for number in range(own) for row in itertools.product(*choices)]


def small_numbers():
    """Numbers for which the lists of views are short: D, own, other and reach."""
    numbers = list(itertools.product((2, 3, 4), (1, 2, 3), (1, 2), range(5)))
    return [(D, own, other, reach) for D, own, other, reach in numbers if own == other == 1 or D + reach < 5]


class ListsTest(unittest.TestCase):

    def test_reach_0(self):
        self.assertEqual(all_views(2, 1, 3, 0), [(0,)])
        self.assertEqual(all_views(4, 3, 1, 0), [(0,), (1,), (2,)])
        self.assertEqual(all_branches(2, 3, 1, 0, 2), [(0,), (1,), (2,)])

    def test_small_lists_in_full(self):
        self.assertEqual(all_views(2, 2, 1, 1), [(0, ((0,), (0,))), (1, ((0,), (0,)))])
        self.assertEqual(all_views(2, 1, 2, 1), [
            (0, ((0,), (0,))), (0, ((0,), (1,))), (0, ((1,), (0,))), (0, ((1,), (1,)))])
        self.assertEqual(all_branches(2, 1, 2, 1, 1), [(0, (None, (0,))), (0, (None, (1,)))])
        self.assertEqual(all_branches(2, 1, 2, 1, 2), [(0, ((0,), None)), (0, ((1,), None))])
        self.assertEqual(all_branches(3, 2, 1, 1, 2), [(0, ((0,), None, (0,))), (1, ((0,), None, (0,)))])
        self.assertEqual(all_views(2, 1, 1, 2), [(0, ((0, (None, (0,))), (0, ((0,), None))))])
        self.assertEqual(all_views(2, 2, 1, 2)[:3], [
            (0, ((0, (None, (0,))), (0, ((0,), None)))),
            (0, ((0, (None, (0,))), (0, ((1,), None)))),
            (0, ((0, (None, (1,))), (0, ((0,), None))))])

    def test_by_names(self):
        self.assertEqual(all_views(reach=1, other=2, own=1, D=2), all_views(2, 1, 2, 1))
        self.assertEqual(all_branches(colour=2, reach=1, other=2, own=1, D=2), all_branches(2, 1, 2, 1, 2))

    def test_views_against_the_words_of_the_document(self):
        for D, own, other, reach in small_numbers():
            with self.subTest(D=D, own=own, other=other, reach=reach):
                told = items_told(D, own, other, reach, None)
                self.assertEqual(all_views(D, own, other, reach), told)

    def test_branches_against_the_words_of_the_document(self):
        for D, own, other, reach in small_numbers():
            for colour in range(1, D + 1):
                with self.subTest(D=D, own=own, other=other, reach=reach, colour=colour):
                    told = items_told(D, own, other, reach, colour)
                    self.assertEqual(all_branches(D, own, other, reach, colour), told)

    def test_larger_lists_ascend_and_have_their_lengths(self):
        # A view of D 2 and reach 4 has 5 nodes of the own side and 4 of the other.
        self.assertEqual(len(all_views(2, 3, 2, 4)), 3 ** 5 * 2 ** 4)
        for views in (all_views(2, 3, 2, 4), all_views(3, 2, 2, 2), all_branches(2, 3, 2, 4, 1),
                      all_branches(3, 2, 1, 3, 2), all_branches(4, 1, 2, 2, 4)):
            self.assertTrue(all(first < second for first, second in zip(views, views[1:])))

    def test_a_changed_list_does_not_change_the_next_one(self):
        for make in (lambda: all_views(2, 2, 2, 1), lambda: all_branches(2, 2, 2, 1, 1), lambda: all_views(2, 2, 2, 0)):
            first = make()
            before = list(first)
            first[0] = None
            first.append(7)
            del first[1]
            self.assertEqual(make(), before)


class TooManyTest(unittest.TestCase):

    def test_200000_items_are_not_too_many(self):
        for views in (all_views(2, 200000, 1, 0), all_views(2, 5, 200, 1), all_branches(2, 200000, 9, 0, 1),
                      all_branches(3, 5, 200, 1, 3), all_branches(2, 1000, 200, 1, 2)):
            self.assertEqual(len(views), 200000)

    def test_a_little_below(self):
        self.assertEqual(len(all_views(2, 1, 447, 1)), 199809)
        self.assertEqual(len(all_views(3, 4, 2, 2)), 4 ** 7 * 2 ** 3)
        self.assertEqual(len(all_views(2, 4, 3, 4)), 4 ** 5 * 3 ** 4)

    def test_just_above(self):
        for D, own, other, reach in ((2, 200001, 1, 0), (2, 1, 448, 1), (2, 8, 159, 1), (3, 4, 3, 2), (2, 4, 4, 4)):
            with self.assertRaises(errors.TooMany):
                all_views(D, own, other, reach)
        for D, own, other, reach in ((2, 200001, 1, 0), (2, 1, 200001, 1), (3, 1, 448, 1), (3, 4, 4, 3)):
            with self.assertRaises(errors.TooMany):
                all_branches(D, own, other, reach, 1)

    def test_immense_ones_at_once(self):
        with self.assertRaises(errors.TooMany):
            all_views(4, 4, 4, 4)
        with self.assertRaises(errors.TooMany):
            all_views(4, 2, 1, 4)
        for colour in (1, 2, 3, 4):
            with self.assertRaises(errors.TooMany):
                all_branches(4, 4, 4, 4, colour)


class BadReachTest(unittest.TestCase):

    def test_wrong_reaches(self):
        for reach in NO_REACH:
            with self.assertRaises(errors.BadReach):
                all_views(2, 1, 1, reach)
            for colour in (1, 2):
                with self.assertRaises(errors.BadReach):
                    all_branches(2, 1, 1, reach, colour)
            for value in ((0,), (0, ((0,), (0,))), None, 5, [], "view"):
                with self.assertRaises(errors.BadReach):
                    is_view(value, 2, 1, 1, reach)

    def test_also_where_there_would_be_too_many(self):
        for reach in NO_REACH:
            with self.assertRaises(errors.BadReach):
                all_views(4, 10 ** 9, 10 ** 9, reach)
            with self.assertRaises(errors.BadReach):
                all_branches(4, 10 ** 9, 10 ** 9, reach, 1)

    def test_right_ones(self):
        for reach in range(5):
            self.assertEqual(len(all_views(2, 1, 1, reach)), 1)
            self.assertEqual(len(all_branches(4, 1, 1, reach, 3)), 1)
            self.assertIs(is_view(None, 2, 1, 1, reach), False)


class SeenThroughTest(unittest.TestCase):

    def test_reach_1(self):
        view = (3, ((0,), (1,), (2,)))
        self.assertEqual([seen_through(view, colour) for colour in (1, 2, 3)], [(0,), (1,), (2,)])

    def test_reach_2(self):
        view = (3, ((0, (None, (1,))), (2, ((0,), None))))
        self.assertEqual(seen_through(view, 1), (0, ((3,), (1,))))
        self.assertEqual(seen_through(colour=2, view=view), (2, ((0,), (3,))))

    def test_reach_3(self):
        view = (3, ((0, (None, (1, ((2,), None)))), (2, ((0, (None, (1,))), None))))
        self.assertEqual(seen_through(view, 1), (0, ((3, (None, (2,))), (1, ((2,), None)))))
        self.assertEqual(seen_through(view, 2), (2, ((0, (None, (1,))), (3, ((0,), None)))))

    def test_in_a_network(self):
        for D, side, node, reach in itertools.product((2, 3), ("white", "black"), range(3), range(1, 5)):
            view = found(D, side, node, reach, None)
            before = copy.deepcopy(view)
            for colour in range(1, D + 1):
                with self.subTest(D=D, side=side, node=node, reach=reach, colour=colour):
                    told = found(D, *behind(side, node, colour), reach - 1, None)
                    self.assertEqual(seen_through(view, colour), told)
            self.assertEqual(view, before)

    def test_gives_views_of_the_other_side(self):
        for view in all_views(3, 2, 1, 2) + all_views(2, 2, 3, 2):
            D = len(view[1])
            for colour in range(1, D + 1):
                self.assertTrue(is_view(seen_through(view, colour), D, 3 if D == 2 else 1, 2, 1))

    def test_reach_0(self):
        for view in ((0,), (3,)):
            for colour in (1, 2, 4):
                with self.assertRaises(errors.BadReach):
                    seen_through(view, colour)


class ReachOfTest(unittest.TestCase):

    def test_views(self):
        for D, side, node, reach in itertools.product((2, 3), ("white", "black"), range(3), range(5)):
            self.assertEqual(reach_of(found(D, side, node, reach, None)), reach)
        for D, reach in itertools.product((2, 3, 4), range(5)):
            self.assertEqual(reach_of(view=all_views(D, 1, 1, reach)[0]), reach)


class IsViewTest(unittest.TestCase):

    def test_just_the_views_of_the_list(self):
        for D, own, other, reach in ((2, 2, 1, 0), (2, 2, 1, 1), (2, 1, 2, 2), (2, 2, 1, 3), (3, 2, 1, 2), (2, 1, 2, 4)):
            for view in all_views(D, own, other, reach):
                before = copy.deepcopy(view)
                self.assertIs(is_view(view, D, own, other, reach), True)
                self.assertEqual(view, before)
                for another in range(5):
                    self.assertIs(is_view(view, D, own, other, another), another == reach)

    def test_by_names(self):
        self.assertIs(is_view(reach=0, other=1, own=2, D=2, value=(1,)), True)

    def test_views_of_the_other_side(self):
        for reach in range(4):
            views = all_views(2, 2, 3, reach)
            for view in all_views(2, 3, 2, reach):
                self.assertIs(is_view(view, 2, 2, 3, reach), view in views)

    def test_views_with_another_number_of_colours(self):
        for reach in range(1, 4):
            self.assertIs(is_view(all_views(3, 1, 1, reach)[0], 2, 1, 1, reach), False)
            self.assertIs(is_view(all_views(3, 1, 1, reach)[0], 4, 1, 1, reach), False)

    def test_branches(self):
        for reach, colour in itertools.product(range(1, 5), (1, 2, 3)):
            for branch in all_branches(3, 1, 1, reach, colour):
                self.assertIs(is_view(branch, 3, 1, 1, reach), False)

    def test_numbers_at_their_bounds(self):
        for reach in range(5):
            view = found(2, "white", 2, reach, None)
            for path in paths_of(view):
                if isinstance(at_path(view, path), int):
                    own_side = len(path) % 4 == 1
                    low = with_part(view, path, 0)
                    top = with_part(view, path, 4 if own_side else 5)
                    above = with_part(view, path, 5 if own_side else 6)
                    with self.subTest(reach=reach, path=path):
                        self.assertIs(is_view(low, 2, 5, 6, reach), True)
                        self.assertIs(is_view(top, 2, 5, 6, reach), True)
                        self.assertIs(is_view(above, 2, 5, 6, reach), False)

    def test_one_part_changed(self):
        for D, reach in ((2, 0), (2, 1), (2, 2), (2, 3), (2, 4), (3, 2), (4, 2), (3, 3)):
            view = all_views(D, 1, 1, reach)[0]
            for path in paths_of(view):
                part = at_path(view, path)
                others = [True, False, -1, 1, 10 ** 5000, "0", "", [], {}, (), [0], (None,), (0, (None, None))]
                if part is not None:
                    others.append(None)
                else:
                    others.extend([0, (0,)] + [all_branches(D, 1, 1, many, 1)[0] for many in range(reach)])
                if isinstance(part, tuple):
                    others.extend([list(part), part[1:], part[:-1], part + (0,), part + (None,), part + (part[0],)])
                    others.extend([(part,), part[::-1] if len(part) == 2 and part != part[::-1] else None])
                for other in others:
                    if other.__class__ is not part.__class__ or other != part:
                        with self.subTest(D=D, reach=reach, path=path, kind=other.__class__):
                            self.assertIs(is_view(with_part(view, path, other), D, 1, 1, reach), False)

    def test_none_at_another_place(self):
        right = (0, ((0, (None, (0,))), (0, ((0,), None))))
        self.assertIs(is_view(right, 2, 1, 1, 2), True)
        for branches in (((0, ((0,), None)), (0, (None, (0,)))), ((0, (None, (0,))), (0, (None, (0,)))),
                         ((0, (None, None)), (0, ((0,), None))), ((0, ((0,), (0,))), (0, ((0,), None))),
                         (None, (0, ((0,), None))), ((0, (None, (0,))), None)):
            self.assertIs(is_view((0, branches), 2, 1, 1, 2), False)

    def test_other_values(self):
        for value in (None, True, False, 0, 1, 10 ** 5000, "", "view", "00", [], {}, (), [0], {0: 0}, ((0,),), ((),), (0, 0)):
            for reach in range(5):
                self.assertIs(is_view(value, 2, 1, 1, reach), False)

    def test_the_value_stays_as_it_was(self):
        value = [0, [[0], (0,)]]
        is_view(value, 2, 1, 1, 1)
        self.assertEqual(value, [0, [[0], (0,)]])

    def test_where_there_would_be_too_many(self):
        self.assertIs(is_view(all_views(4, 1, 1, 4)[0], 4, 4, 4, 4), True)
        self.assertIs(is_view(all_views(4, 1, 1, 3)[0], 4, 4, 4, 4), False)


if __name__ == "__main__":
    unittest.main()
