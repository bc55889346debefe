"""check_plain, views_by_messages, kinds and base_of of looksfar.kinds."""

import copy
import itertools
import random
import unittest

from looksfar import errors
from looksfar.kinds import base_of, check_plain, kinds, views_by_messages
from looksfar.networks import check_network, labelled, view_in
from tests.changing import HUGE, changed_values, with_part
from tests.examples import chance_algorithm
from tests.nets import (
    NETWORKS, behind, chance_network, chance_turns, inputs_at, is_right_network, lone, network_of, ring, told_base,
    told_cover, told_kinds, view_numbers)

SIDES = ("white", "black")
NETWORK = network_of(((0, 1, 2), (0, 2, 1)), (0, 1, 2), (3, 0, 0))
NO_ROUNDS = (-1, 5, HUGE, -HUGE, True, False, None, "1", "", (), (1,), [1], {})
OTHER_PARTS = (3, 4, 5, 400, 401, "task", "networks")
NO_NETWORKS = (None, True, False, 0, 1, HUGE, "", "network", (), [], {}, ((),), ("network",), list(NETWORK),
               NETWORK[:4], with_part(NETWORK, (1,), True), with_part(NETWORK, (2, 0, 1), 2), with_part(NETWORK, (3, 0), 4), lone(5))


def twins(network):
    """The network beside itself, in two parts that are not joined."""
    return told_cover(network, tuple(((0, 1),) * network[1] for _ in network[2]))


class CheckPlainTest(unittest.TestCase):

    def assert_plain(self, network, answer):
        before = copy.deepcopy(network)
        if answer:
            self.assertIsNone(check_plain(network))
        else:
            for look in (check_plain, kinds, base_of, lambda value: views_by_messages(value, 0)):
                with self.assertRaises(errors.BadNetwork):
                    look(network)
        self.assertTrue(network == before)

    def test_right_ones(self):
        for network in NETWORKS:
            self.assert_plain(network, True)
        self.assertIsNone(check_plain(network=NETWORK))

    def test_numbers_of_colours_nodes_and_inputs(self):
        chance = random.Random(51)
        for D in range(7):
            self.assert_plain(lone(D), D in (2, 3, 4))
        for x, y in itertools.product((-1, 0, 1, 2, 3, 4, 60), repeat=2):
            self.assert_plain(ring((0, x), (y, 0)), x in range(4) and y in range(4))
        for D, n in itertools.product((2, 3, 4), (1, 2, 399, 400, 401)):
            self.assert_plain(chance_network(chance, n, D, 4, 4), n < 401)
        self.assert_plain(("network", 0, ((), ()), (), ()), False)

    def test_one_place_changed(self):
        answers = []
        for network in NETWORKS:
            for value in changed_values(network, OTHER_PARTS):
                answers.append(is_right_network(value, (2, 3, 4), 4, 4))
                self.assert_plain(value, answers[-1])
        self.assertGreater(answers.count(True), 50)
        self.assertGreater(answers.count(False), 3000)

    def test_values_that_are_no_network(self):
        for value in NO_NETWORKS:
            self.assert_plain(value, False)


class MessagesTest(unittest.TestCase):

    def assert_views(self, network, rounds):
        before = copy.deepcopy(network)
        pair = views_by_messages(network, rounds)
        self.assertEqual(network, before)
        self.assertIsInstance(pair, tuple)
        self.assertEqual([views.__class__ for views in pair], [list, list])
        for side, views in zip(SIDES, pair):
            self.assertEqual(views, [view_in(network, side, node, rounds) for node in range(network[1])])

    def test_they_are_the_views(self):
        chance = random.Random(52)
        for rounds in range(5):
            for network in NETWORKS:
                self.assert_views(network, rounds)
            for D, n in itertools.product((2, 3, 4), (1, 2, 9)):
                self.assert_views(chance_network(chance, n, D, 4, 4), rounds)
        self.assert_views(chance_network(chance, 400, 4, 4, 4), 2)
        self.assert_views(chance_network(chance, 400, 2, 4, 4), 4)

    def test_small_ones_in_full(self):
        network = ring((0, 1), (2, 3))
        self.assertEqual(views_by_messages(network, 0), ([(0,), (1,)], [(2,), (3,)]))
        self.assertEqual(views_by_messages(rounds=1, network=network), (
            [(0, ((2,), (3,))), (1, ((3,), (2,)))], [(2, ((0,), (1,))), (3, ((1,), (0,)))]))
        self.assertEqual(views_by_messages(network, 2)[0][1], (1, ((3, (None, (0,))), (2, ((0,), None)))))

    def test_the_lists_are_the_callers(self):
        for rounds in range(3):
            first = views_by_messages(NETWORK, rounds)
            told = copy.deepcopy(first)
            first[0].clear()
            first[1][0] = None
            self.assertEqual(views_by_messages(NETWORK, rounds), told)

    def test_the_order_of_the_errors(self):
        for rounds in NO_ROUNDS:
            with self.assertRaises(errors.BadReach):
                views_by_messages(NETWORK, rounds)
        for network in NO_NETWORKS:
            for rounds in (0, 4) + NO_ROUNDS:
                with self.assertRaises(errors.BadNetwork):
                    views_by_messages(network, rounds)


class KindsTest(unittest.TestCase):

    def assert_kinds(self, network, told=None):
        before = copy.deepcopy(network)
        pair = kinds(network)
        self.assertEqual(network, before)
        self.assertEqual(pair, told_kinds(network) if told is None else told)
        self.assertEqual([numbers.__class__ for numbers in pair], [tuple, tuple])
        return pair

    def test_all_alike(self):
        for n in (1, 2, 5, 12):
            for D in (2, 3, 4):
                network = chance_network(random.Random(n), n, D, 1, 1)
                self.assert_kinds(network, ((0,) * n, (0,) * n))
                self.assert_kinds(network_of(network[2], (2,) * n, (3,) * n), ((0,) * n, (0,) * n))
        self.assert_kinds(ring((0,) * 400, (1,) * 400), ((0,) * 400, (0,) * 400))

    def test_all_unlike(self):
        self.assert_kinds(ring((0, 1, 2), (0, 0, 0)), ((0, 1, 2), (0, 1, 2)))
        # Only the way to the one white node with another input tells them apart.
        for n in (2, 3, 7, 60):
            network = ring((0,) * (n - 1) + (1,), (0,) * n)
            self.assert_kinds(network, (tuple(range(n)), tuple(range(n))))
            self.assert_kinds(ring((0,) * n, (0,) * (n - 1) + (1,)), (tuple(range(n)), tuple(range(n))))

    def test_some_alike(self):
        self.assert_kinds(ring((0, 1, 0, 1), (0, 0, 0, 0)), ((0, 1, 0, 1), (0, 1, 0, 1)))
        self.assert_kinds(ring((1, 1, 0, 1, 1, 0), (0,) * 6), ((0, 1, 2, 0, 1, 2), (0, 1, 2, 0, 1, 2)))
        self.assert_kinds(ring((0, 0, 0, 1, 0, 0, 0, 1), (0,) * 8), ((0, 1, 2, 3) * 2, (0, 1, 2, 3) * 2))
        # Two rings, a short one and a long one, in which all is alike.
        links = ((0, 1, 2, 3, 4), (1, 0, 3, 4, 2))
        self.assert_kinds(network_of(links, (0,) * 5, (0,) * 5), ((0,) * 5, (0,) * 5))
        self.assert_kinds(network_of(links, (0, 1, 0, 0, 1), (0,) * 5))

    def test_numbers_in_the_order_in_which_kinds_come_first(self):
        # The black nodes are numbered by themselves, not by the white ones.
        network = network_of(((2, 1, 0), (2, 1, 0)), (3, 0, 3), (0, 2, 2))
        self.assert_kinds(network, ((0, 1, 2), (0, 1, 2)))
        network = network_of(((1, 0), (1, 0)), (0, 1), (0, 0))
        self.assert_kinds(network, ((0, 1), (0, 1)))
        network = network_of(((2, 0, 1), (2, 0, 1)), (1, 0, 1), (0, 0, 0))
        self.assert_kinds(network, ((0, 1, 0), (0, 1, 1)))

    def test_against_the_words_of_the_document(self):
        chance = random.Random(53)
        alike = 0
        for network in NETWORKS:
            self.assert_kinds(network)
        for _ in range(150):
            network = chance_network(chance, chance.randint(1, 6), chance.randint(2, 4), 2, 1)
            pair = self.assert_kinds(network)
            alike += max(pair[0]) + 1 < network[1]
        self.assertGreater(alike, 10)

    def test_covers_of_smaller_ones(self):
        chance = random.Random(54)
        for _ in range(60):
            base = chance_network(chance, chance.randint(1, 4), chance.randint(2, 4), 2, 2)
            k = chance.randint(1, 4)
            cover = told_cover(base, chance_turns(chance, base, k))
            numbers = self.assert_kinds(cover)
            for own, behind_it in zip(numbers, kinds(base)):
                self.assertEqual(own, tuple(number for number in behind_it for _ in range(k)))

    def test_views_of_reach_2_n_minus_2_tell_what_farther_ones_tell(self):
        chance = random.Random(55)
        networks = [chance_network(chance, chance.randint(1, 7), chance.randint(2, 4), 2, 1) for _ in range(60)]
        networks.extend([ring((0,) * (n - 1) + (1,), (0,) * n) for n in range(1, 9)])
        networks.extend([ring((0,) * n, (0,) * (n - 1) + (1,)) for n in range(1, 9)])
        for network in networks:
            n = network[1]
            near, far = view_numbers(network, 2 * n - 2), view_numbers(network, 4 * n + 5)
            for side, numbers in zip(SIDES, kinds(network)):
                for i, j in itertools.combinations(range(n), 2):
                    self.assertEqual(near[side][i] == near[side][j], numbers[i] == numbers[j])
                    self.assertEqual(far[side][i] == far[side][j], numbers[i] == numbers[j])

    def test_many_nodes(self):
        # Their views of reach 798 with D 4 would have more than 3 ** 797 nodes.
        chance = random.Random(56)
        self.assert_kinds(ring((0,) * 399 + (1,), (0,) * 400), (tuple(range(400)),) * 2)
        self.assert_kinds(ring((0,) * 400, (1,) + (0,) * 399), (tuple(range(400)),) * 2)
        for D in (2, 3, 4):
            self.assert_kinds(chance_network(chance, 60, D, 1, 2))
            half = chance_network(chance, 200, D, 2, 2)
            pair = kinds(half)
            self.assert_kinds(twins(half), tuple(tuple(number for number in own for _ in (0, 1)) for own in pair))
            small = chance_network(chance, 5, D, 3, 3)
            cover = told_cover(small, chance_turns(chance, small, 80))
            self.assert_kinds(cover, tuple(tuple(number for number in own for _ in range(80)) for own in kinds(small)))

    def test_alike_nodes_get_the_same_row(self):
        chance = random.Random(57)
        for D, reach, side in itertools.product((2, 3), (0, 1, 2), SIDES):
            task = ("task", D, (4,) * D, ((),) * 2, ((),))
            base = chance_network(chance, 3, D, 2, 1)
            cover = told_cover(base, chance_turns(chance, base, 3))
            rows = labelled(task, cover, chance_algorithm(chance, task, side, reach))
            for i, j in itertools.combinations(range(9), 2):
                if kinds(cover)[0][i] == kinds(cover)[0][j]:
                    self.assertEqual(rows[i], rows[j])

    def test_by_name(self):
        self.assertEqual(kinds(network=ring((0, 0), (1, 1))), ((0, 0), (0, 0)))


class BaseTest(unittest.TestCase):

    def assert_base(self, network):
        before = copy.deepcopy(network)
        base = base_of(network)
        self.assertEqual(network, before)
        self.assertEqual(base, told_base(network))
        self.assertIsNone(check_plain(base))
        # No two nodes of it are alike, so it is its own base.
        self.assertEqual(kinds(base), (tuple(range(base[1])),) * 2)
        self.assertEqual(base_of(base), base)
        return base

    def test_small_ones_in_full(self):
        self.assertEqual(self.assert_base(ring((0, 0, 0), (1, 1, 1))), lone(2, 0, 1))
        self.assertEqual(self.assert_base(ring((0, 1, 0, 1), (0, 0, 0, 0))), ring((0, 1), (0, 0)))
        network = network_of(((2, 0, 1), (2, 0, 1)), (1, 0, 1), (2, 2, 2))
        self.assertEqual(self.assert_base(network), network_of(((1, 0), (1, 0)), (1, 0), (2, 2)))
        self.assertEqual(base_of(network=NETWORK), told_base(NETWORK))

    def test_against_the_words_of_the_document(self):
        chance = random.Random(58)
        smaller = 0
        for network in NETWORKS:
            self.assert_base(network)
        for _ in range(150):
            network = chance_network(chance, chance.randint(1, 6), chance.randint(2, 4), 2, 2)
            smaller += self.assert_base(network)[1] < network[1]
        self.assertGreater(smaller, 5)

    def test_of_covers(self):
        chance = random.Random(59)
        for _ in range(40):
            network = chance_network(chance, chance.randint(1, 4), chance.randint(2, 4), 2, 2)
            cover = told_cover(network, chance_turns(chance, network, chance.randint(2, 4)))
            self.assertEqual(self.assert_base(cover), base_of(network))

    def test_no_two_alike(self):
        # The numbers of nodes stay, also where the links lead anywhere.
        for network in (ring((0, 1, 2), (0, 0, 0)), ring((0,) * 29 + (1,), (0,) * 30), NETWORK):
            self.assertEqual(self.assert_base(network), network)
        chance = random.Random(60)
        network = chance_network(chance, 400, 4, 4, 4)
        self.assertEqual(max(kinds(network)[0]), 399)
        self.assertEqual(base_of(network), network)

    def test_edges_lead_from_kind_to_kind(self):
        chance = random.Random(61)
        small = chance_network(chance, 4, 3, 1, 3)
        network = told_cover(small, chance_turns(chance, small, 100))
        base = base_of(network)
        white, black = kinds(network)
        self.assertIsNone(check_network(base, ("task", 3, (1,) * 3, ((),), ((),) * 3)))
        for i in range(400):
            self.assertEqual(inputs_at(base, "white")[white[i]], network[3][i])
            self.assertEqual(inputs_at(base, "black")[black[i]], network[4][i])
            for colour in (1, 2, 3):
                end = behind(network, "white", i, colour)[1]
                self.assertEqual(behind(base, "white", white[i], colour), ("black", black[end]))


if __name__ == "__main__":
    unittest.main()
