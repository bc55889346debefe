"""cover_of, content_rows and even_rows of looksfar.covers."""

import copy
import itertools
import random
import unittest

from looksfar import errors
from looksfar.covers import content_rows, cover_of, even_rows
from looksfar.kinds import base_of, check_plain, kinds
from looksfar.networks import is_content, labelled, view_in
from tests.changing import HUGE, changed_values, with_part
from tests.examples import chance_algorithm, chance_tasks, echo, every_row, unlike
from tests.nets import (
    NETWORKS, chance_network, chance_turns, least_content_by_turns, lone, network_of, ring, told_base, told_content,
    told_cover, told_kinds, told_least_content)

SIDES = ("white", "black")
TASK = ("task", 2, (2, 3), (((0, 1), (1, 0)), ((0, 2),)), (((0, 0), (0, 2), (1, 1)),))
NO_TASKS = (None, (), 5, list(TASK), TASK[:4], with_part(TASK, (1,), True), with_part(TASK, (3, 0), [(0, 1)]))
NETWORK = network_of(((0, 1, 2), (0, 2, 1)), (0, 1, 1), (0, 0, 0))
NO_NETWORKS = (None, True, False, 0, HUGE, "", "network", (), [], {}, ("network",), list(NETWORK), NETWORK[:4],
               with_part(NETWORK, (1,), True), with_part(NETWORK, (2, 0, 1), 2), with_part(NETWORK, (3, 0), 4), lone(5))
TURNS = (((0, 1), (1, 0), (0, 1)), ((0, 1), (0, 1), (1, 0)))


def task_with(labels, white, black):
    return ("task", len(labels), labels, white, black)


def task_by(labels, white, black):
    """The task that allows the rows of which the rules, one for each input, say so."""
    return task_with(labels, *[tuple(tuple(row for row in every_row(labels) if rule(row)) for rule in rules)
                               for rules in (white, black)])


def fitting(network, task):
    """The network with its inputs so that they fit the task."""
    return network_of(network[2], tuple(x % len(task[3]) for x in network[3]),
                      tuple(y % len(task[4]) for y in network[4]))


def are_right_turns(network, turns):
    """Whether they are turns, looked at as the document tells it."""
    if turns.__class__ is not tuple or len(turns) != len(network[2]):
        return False
    for rows in turns:
        if rows.__class__ is not tuple or len(rows) != network[1]:
            return False
        for row in rows:
            if row.__class__ is not tuple or any(number.__class__ is not int for number in row):
                return False
            if sorted(row) != list(range(len(turns[0][0]))):
                return False
    return 0 < len(turns[0][0]) and len(turns[0][0]) * network[1] < 401


class CoverOfTest(unittest.TestCase):

    def assert_cover(self, network, turns):
        before = copy.deepcopy((network, turns))
        cover = cover_of(network, turns)
        self.assertEqual((network, turns), before)
        self.assertEqual(cover, told_cover(network, turns))
        self.assertIsNone(check_plain(cover))
        return cover

    def assert_bad(self, network, turns):
        before = copy.deepcopy((network, turns))
        with self.assertRaises(errors.BadNetwork):
            cover_of(network, turns)
        self.assertTrue((network, turns) == before)

    def test_small_ones_in_full(self):
        # Two copies of a pair of nodes, whose second edges go over crosswise: a ring of four.
        self.assertEqual(self.assert_cover(lone(2, 1, 2), (((0, 1),), ((1, 0),))),
                         network_of(((0, 1), (1, 0)), (1, 1), (2, 2)))
        self.assertEqual(self.assert_cover(NETWORK, TURNS), network_of(
            ((0, 1, 3, 2, 4, 5), (0, 1, 4, 5, 3, 2)), (0, 0, 1, 1, 1, 1), (0,) * 6))
        self.assertEqual(cover_of(turns=TURNS, network=NETWORK), told_cover(NETWORK, TURNS))
        self.assertEqual(self.assert_cover(ring((0, 1), (2, 3)), (((2, 0, 1), (0, 1, 2)), ((1, 2, 0), (0, 2, 1)))),
                         network_of(((2, 0, 1, 3, 4, 5), (4, 5, 3, 0, 2, 1)), (0, 0, 0, 1, 1, 1), (2, 2, 2, 3, 3, 3)))

    def test_1_to_4_copies(self):
        chance = random.Random(71)
        for network in NETWORKS:
            for k in (1, 2, 3, 4):
                self.assert_cover(network, chance_turns(chance, network, k))
            self.assertEqual(cover_of(network, (((0,),) * network[1],) * len(network[2])), network)

    def test_each_copy_has_the_views_of_its_node(self):
        chance = random.Random(72)
        for network in NETWORKS:
            for k in (2, 3):
                cover = self.assert_cover(network, chance_turns(chance, network, k))
                for side, node, reach in itertools.product(SIDES, range(network[1]), range(4)):
                    view = view_in(network, side, node, reach)
                    for number in range(k):
                        self.assertEqual(view_in(cover, side, node * k + number, reach), view)
                # Views of each reach: a copy is of the kind of its node.
                for own, of_copies in zip(kinds(network), kinds(cover)):
                    self.assertEqual(of_copies, tuple(kind for kind in own for _ in range(k)))

    def test_each_algorithm_gives_copies_the_same_row(self):
        chance = random.Random(73)
        for D, reach, side in itertools.product((2, 3), (0, 1, 2), SIDES):
            task = task_with((3,) * D, ((),) * 2, ((),))
            network = chance_network(chance, 3, D, 2, 1)
            cover = cover_of(network, chance_turns(chance, network, 3))
            algorithm = chance_algorithm(chance, task, side, reach)
            rows = labelled(task, network, algorithm)
            self.assertEqual(labelled(task, cover, algorithm), [row for row in rows for _ in range(3)])

    def test_400_nodes_and_above(self):
        chance = random.Random(74)
        for n, k in ((1, 400), (400, 1), (200, 2), (100, 4), (133, 3), (57, 7)):
            network = chance_network(chance, n, 2, 2, 2)
            self.assert_cover(network, chance_turns(chance, network, k))
        for n, k in ((1, 401), (201, 2), (134, 3), (400, 2), (101, 4), (2, 1000)):
            network = chance_network(chance, n, 2, 2, 2)
            self.assert_bad(network, chance_turns(chance, network, k))

    def test_turns_with_one_place_changed(self):
        chance = random.Random(75)
        answers = []
        for network in (NETWORK, lone(3), lone(4, 1, 1), ring((0, 1), (1, 0))):
            for k in (1, 2, 3):
                turns = chance_turns(chance, network, k)
                for wrong in changed_values(turns, (((0, 1),), (0, 1), (1, 0), (True, 0), (0, 1, 2))):
                    answers.append(are_right_turns(network, wrong))
                    if answers[-1]:
                        self.assert_cover(network, wrong)
                    else:
                        self.assert_bad(network, wrong)
        self.assertGreater(answers.count(True), 10)
        self.assertGreater(answers.count(False), 1000)

    def test_turns_that_are_not_as_told(self):
        row, rows = TURNS[0][0], TURNS[0]
        for wrong in (None, (), True, 0, "", "01", [], {}, TURNS[0], row, list(TURNS), TURNS + (rows,), TURNS[:1],
                      (rows, rows[:2]), (rows + (row,), TURNS[1]), (list(rows), TURNS[1]), ((), ()), (((),) * 3,) * 2,
                      (((0,),) * 3, TURNS[1]), with_part(TURNS, (1, 2), (0, 1, 2)), with_part(TURNS, (0, 0), (0,)),
                      with_part(TURNS, (0, 0), (0, 0)), with_part(TURNS, (0, 0), (1, 2)), with_part(TURNS, (1, 1), (2, 0)),
                      with_part(TURNS, (0, 0), (0, True)), with_part(TURNS, (0, 0), (False, 1)),
                      with_part(TURNS, (0, 0), (0, -1)), with_part(TURNS, (0, 0), (0, HUGE)),
                      with_part(TURNS, (1, 0), [0, 1]), with_part(TURNS, (1, 0), "01"),
                      with_part(TURNS, (1, 0), {0: 0, 1: 1}), with_part(TURNS, (1, 0), None), (("01",) * 3,) * 2):
            self.assert_bad(NETWORK, wrong)

    def test_values_that_are_no_network(self):
        for network in NO_NETWORKS:
            for turns in (TURNS, None, ()):
                self.assert_bad(network, turns)


class ContentRowsTest(unittest.TestCase):

    def assert_rows(self, task, network, told):
        before = copy.deepcopy((task, network))
        rows = content_rows(task, network)
        self.assertEqual(rows, told)
        self.assertEqual((task, network), before)
        if rows is not None:
            self.assertIsInstance(rows, list)
            self.assertIs(is_content(task, network, rows), True)

    def test_small_ones_in_full(self):
        self.assert_rows(echo(2), ring((0, 0, 0), (0, 1, 1)), [(0, 1), (1, 1), (1, 0)])
        self.assert_rows(unlike(2), ring((0, 0), (0, 0)), [(0, 0), (1, 1)])
        self.assert_rows(unlike(2), ring((0, 0, 0), (0, 0, 0)), None)
        self.assert_rows(unlike(3), ring((0, 0, 0), (0, 0, 0)), [(0, 0), (1, 1), (2, 2)])
        self.assert_rows(unlike(2), lone(2), None)
        self.assertEqual(content_rows(network=lone(2), task=echo(2)), [(0, 0)])

    def test_all_lists_gone_through(self):
        chance = random.Random(76)
        answers = []
        for part in (30, 50, 70):
            for task in chance_tasks(60, [(2, 2), (3, 2), (2, 3), (2, 2, 2), (2, 1, 2, 2), (3, 3)], part):
                for n in (1, 2, 3):
                    network = chance_network(chance, n, task[1], len(task[3]), len(task[4]))
                    answers.append(told_least_content(task, network))
                    self.assert_rows(task, network, answers[-1])
        self.assertGreater(answers.count(None), 100)
        self.assertGreater(len(answers) - answers.count(None), 100)

    def test_longer_lists(self):
        chance = random.Random(77)
        answers = []
        for part, shapes in ((45, [(2, 2), (3, 2), (2, 2, 2)]), (30, [(4, 4), (8, 8), (4, 4, 4), (2, 2, 4, 4)])):
            for task in chance_tasks(40, shapes, part):
                network = chance_network(chance, chance.randint(4, 8), task[1], len(task[3]), len(task[4]))
                answers.append(least_content_by_turns(task, network))
                self.assert_rows(task, network, answers[-1])
        self.assertGreater(answers.count(None), 10)
        self.assertGreater(len(answers) - answers.count(None), 10)

    def test_inputs_without_rows(self):
        network = ring((0, 0, 1), (0, 1, 0))
        every = every_row((2, 2))
        self.assert_rows(task_with((2, 2), (every, every), (every, every)), network, [(0, 0)] * 3)
        self.assert_rows(task_with((2, 2), (every, ()), (every, every)), network, None)
        self.assert_rows(task_with((2, 2), (every, every), (every, ())), network, None)
        # Only inputs that are there count.
        self.assert_rows(task_with((2, 2), (every, every, ()), (every, every, (), ())), network, [(0, 0)] * 3)

    def test_parts_that_are_not_joined(self):
        # The rings of an even number of white nodes can be filled, that of an odd number cannot.
        def rings(*lengths):
            links = []
            for length in lengths:
                first = len(links)
                links.extend([first + (i + 1) % length for i in range(length)])
            return network_of((tuple(range(len(links))), tuple(links)), (0,) * len(links), (0,) * len(links))
        self.assert_rows(unlike(2), rings(2, 4, 2, 2), [(0, 0), (1, 1)] * 5)
        self.assert_rows(unlike(2), rings(2, 2, 2, 2, 1), None)
        self.assert_rows(unlike(2), rings(1, 2, 2, 2, 2), None)
        self.assert_rows(unlike(8), rings(2, 2, 2, 2, 1), None)
        self.assert_rows(unlike(8), rings(3, 7), [(0, 0), (1, 1), (2, 2)] + [(0, 0), (1, 1)] * 3 + [(2, 2)])

    def test_10_white_nodes_and_a_product_of_64(self):
        # However many lists of rows there are, they are not gone through one by one.
        chance = random.Random(78)
        for labels in ((8, 8), (4, 4, 4), (2, 4, 8), (2, 2, 4, 4), (8, 2, 2, 2), (1, 60), (3, 3, 7)):
            every = every_row(labels)
            task = task_with(labels, (every,) * 2, (every,) * 2)
            network = chance_network(chance, 10, len(labels), 2, 2)
            self.assert_rows(task, network, [(0,) * len(labels)] * 10)
            task = task_with(labels, (every[::-1][:1], every[-2:]), (every, every))
            self.assert_rows(task, network, [task[3][x][0] for x in network[3]])

    def test_hard_ones(self):
        # That there are none is told by counts over all nodes, which no part of the network tells.
        chance = random.Random(79)
        for labels, rules in (((4, 4, 4), (lambda row: sum(row) % 4 == 0, lambda row: sum(row) % 4 == 1)),
                              ((2, 2, 4, 4), (lambda row: sum(row) % 4 == 0, lambda row: sum(row) % 4 == 1)),
                              ((2, 2, 2, 2), (lambda row: sum(row) == 1, lambda row: sum(row) == 2)),
                              ((2, 2, 4, 4), (lambda row: sum(row) < 4, lambda row: sum(row) > 3)),
                              ((2, 4, 8), (lambda row: sum(row) < 5, lambda row: sum(row) > 4)),
                              ((8, 8), (lambda row: row[0] < row[1], lambda row: row[1] <= row[0])),
                              ((8, 8), (lambda row: (row[0] + 1) % 8 == row[1], lambda row: row[0] == row[1]))):
            task = task_by(labels, rules[:1], rules[1:])
            for _ in range(3):
                self.assert_rows(task, chance_network(chance, 10, len(labels), 1, 1), None)

    def test_counts_that_come_out_even(self):
        # All white nodes together have a multiple of 4, so an even number of black ones has the input 1.
        chance = random.Random(79)
        rules = (lambda row: sum(row) % 4 == 0, lambda row: sum(row) % 4 == 2)
        found = 0
        for labels in ((4, 4, 4), (2, 2, 4, 4), (4, 8)):
            task = task_by(labels, rules[:1], rules)
            network = chance_network(chance, 10, len(labels), 1, 1)
            for many in range(11):
                given = network_of(network[2], network[3], (1,) * many + (0,) * (10 - many))
                rows = content_rows(task, given)
                if many % 2 == 1:
                    self.assertIsNone(rows)
                elif rows is not None:
                    self.assertIs(told_content(task, given, rows), True)
                    found += 1
        self.assertGreater(found, 10)

    def test_too_many(self):
        chance = random.Random(80)
        for task, n in ((echo(2), 11), (echo(3), 11), (echo(4), 400), (task_with((5, 13), ((),), ((),)), 1),
                        (task_with((1, 1, 60, 2), ((),), ((),)), 10), (task_with((5, 13, 1), ((),), ((),)), 11)):
            network = chance_network(chance, n, task[1], 1, 1)
            with self.assertRaises(errors.TooMany):
                content_rows(task, network)
        for task in (task_with((64 // 4, 4), ((),), ((),)), task_with((60, 1), ((),), ((),))):
            self.assert_rows(task, lone(2), None)

    def test_the_order_of_the_errors(self):
        for look in (content_rows, even_rows):
            for task in NO_TASKS:
                for network in (NETWORK, None, chance_network(random.Random(1), 11, 2, 1, 1)):
                    with self.assertRaises(errors.BadTask):
                        look(task, network)
            for network in NO_NETWORKS + (lone(3), ring((0, 2), (0, 0)), ring((0, 1), (0, 1))):
                for task in (TASK, task_with((60, 60), ((), ()), ((),))):
                    with self.assertRaises(errors.BadNetwork):
                        look(task, network)
            # Many nodes, but one of them has an input that the task does not have.
            for inputs in ((0, 1, 2), (0, 1, 1)):
                network = ring(inputs * 5, (0,) * 15)
                with self.assertRaises(errors.BadNetwork if 2 in inputs else errors.TooMany):
                    look(task_with((13, 5), ((), ()), ((),)), network)

    def test_the_list_is_the_callers(self):
        for look in (content_rows, even_rows):
            first = look(echo(2), ring((0, 0), (0, 1)))
            told = list(first)
            first.clear()
            self.assertEqual(look(echo(2), ring((0, 0), (0, 1))), told)


class EvenRowsTest(unittest.TestCase):

    def assert_even(self, task, network):
        before = copy.deepcopy((task, network))
        rows = even_rows(task, network)
        self.assertEqual((task, network), before)
        least = content_rows(task, told_base(network))
        self.assertEqual(rows, None if least is None else [least[kind] for kind in told_kinds(network)[0]])
        if rows is not None:
            self.assertIsInstance(rows, list)
            self.assertIs(is_content(task, network, rows), True)
        return rows

    def test_rows_but_no_even_ones(self):
        # All nodes of the ring are alike, but it can be filled only by turns.
        for n in (2, 4, 10):
            network = ring((0,) * n, (0,) * n)
            self.assertEqual(content_rows(unlike(2), network), [(0, 0), (1, 1)] * (n // 2))
            self.assertIsNone(self.assert_even(unlike(2), network))
        network = ring((0,) * 400, (0,) * 400)
        self.assertIsNone(even_rows(unlike(8), network))
        # One other input, and nodes can be told apart.
        network = ring((0, 0, 0, 1), (0,) * 4)
        task = with_part(unlike(2), (3,), unlike(2)[3] * 2)
        self.assertEqual(self.assert_even(task, network), [(0, 0), (1, 1), (0, 0), (1, 1)])

    def test_even_rows_may_be_others_than_the_least(self):
        # Filled by turns, the labels may be 0 and 1; all alike, they are 2.
        task = task_with((3, 3), (every_row((3, 3))[::4],), (((0, 1), (1, 0), (2, 2)),))
        network = ring((0,) * 4, (0,) * 4)
        self.assertEqual(content_rows(task, network), [(0, 0), (1, 1)] * 2)
        self.assertEqual(self.assert_even(task, network), [(2, 2)] * 4)

    def test_against_the_words_of_the_document(self):
        chance = random.Random(81)
        answers = []
        for task in chance_tasks(60, [(2, 2), (3, 2), (2, 2, 2)], 40):
            base = chance_network(chance, chance.randint(1, 3), task[1], len(task[3]), len(task[4]))
            network = told_cover(base, chance_turns(chance, base, chance.randint(1, 4)))
            answers.append(self.assert_even(task, network) is None)
            told = told_least_content(task, told_base(network))
            self.assertEqual(answers[-1], told is None)
        for network in NETWORKS:
            self.assert_even(echo(len(network[2])), fitting(network, echo(len(network[2]))))
        self.assertGreater(answers.count(True), 10)
        self.assertGreater(answers.count(False), 10)

    def test_an_algorithm_gives_rows_allowed_here_exactly_if_there_are_even_ones(self):
        # An algorithm may give the kinds any rows, as the kinds have unlike views of reach 2 n - 2; no other ones.
        chance = random.Random(82)
        answers = []
        for task in chance_tasks(60, [(2, 2), (3, 2)], 50):
            base = chance_network(chance, chance.randint(1, 2), 2, len(task[3]), len(task[4]))
            network = told_cover(base, chance_turns(chance, base, 2))
            white = told_kinds(network)[0]
            lists = itertools.product(every_row(task[2]), repeat=max(white) + 1)
            right = any(told_content(task, network, [rows[kind] for kind in white])
                        for rows in lists if all(row in task[3][x] for row, x in zip(rows, told_base(network)[3])))
            answers.append(right)
            self.assertEqual(even_rows(task, network) is not None, right)
        self.assertGreater(answers.count(True), 10)
        self.assertGreater(answers.count(False), 10)

    def test_too_many(self):
        # It is the base that counts.
        chance = random.Random(83)
        for m, many in ((10, False), (11, True)):
            small = network_of(ring((0,) * m, (0,) * m)[2], (1,) + (0,) * (m - 1), (0,) * m)
            network = told_cover(small, chance_turns(chance, small, 36))
            self.assertEqual(base_of(network)[1], m)
            task = task_with((8, 8), (every_row((8, 8)),) * 2, (every_row((8, 8)),))
            wide = task_with((5, 13), (every_row((5, 13)),) * 2, (every_row((5, 13)),))
            if many:
                with self.assertRaises(errors.TooMany):
                    even_rows(task, network)
            else:
                self.assertEqual(even_rows(task, network), [(0, 0)] * 36 * m)
            for given in (network, small, ring((0, 0), (0, 0))):
                with self.assertRaises(errors.TooMany):
                    even_rows(wide, given)
            if m == 11:
                with self.assertRaises(errors.TooMany):
                    content_rows(task, ring((0,) * 11, (0,) * 11))
                self.assertEqual(even_rows(task, ring((0,) * 11, (0,) * 11)), [(0, 0)] * 11)

    def test_by_names(self):
        self.assertEqual(even_rows(network=ring((0, 0), (1, 1)), task=echo(2)), [(1, 1)] * 2)


if __name__ == "__main__":
    unittest.main()
