"""check_network, view_in, labelled, is_content and network_showing of looksfar.networks."""

import copy
import itertools
import random
import unittest

from looksfar import errors
from looksfar.algorithms import flaw_of, is_flaw, row_at
from looksfar.networks import check_network, is_content, labelled, network_showing, view_in
from looksfar.views import all_views, is_view
from tests.changing import HUGE, at_path, changed_values, paths_of, with_part
from tests.examples import (
    chance_algorithm, chance_tasks, echo, echo_row, every_row, made, numbers, relay, relay_row, turned_relay_row)
from tests.nets import (
    NETWORKS, behind, chance_network, is_right_network, lone, network_of, ring, rows_of_black, told_content,
    told_showing, walked)

SIDES = ("white", "black")
NO_REACHES = (-1, 5, HUGE, -HUGE, True, False, None, "1", "", (), (1,), [1], {})

# A task with 3 white and 4 black inputs, for each number of colours.
TASKS = {D: ("task", D, (2,) * D, (every_row((2,) * D),) * 3, (every_row((2,) * D),) * 4) for D in (2, 3, 4)}
NETWORK = network_of(((0, 1, 2), (0, 2, 1)), (0, 1, 2), (3, 0, 0))
NO_TASKS = (None, (), 5, list(TASKS[2]), TASKS[2][:4], with_part(TASKS[2], (1,), True),
            with_part(TASKS[2], (3, 0), [(0, 1)]))
OTHER_PARTS = (3, 4, 5, 400, 401, "task", "networks")
NO_NETWORKS = (None, True, False, 0, 1, HUGE, "", "network", (), [], {}, ((),), ("network",), list(NETWORK),
               NETWORK[:4], with_part(NETWORK, (1,), True), with_part(NETWORK, (2, 0, 1), 2), ring((0, 1), (4, 0)), lone(3))
NO_ALGORITHMS = (None, (), 0, "algorithm", [], {}, ("algorithm", "white", 1, {}), ("algorithm", "grey", 1, {}))


class CheckNetworkTest(unittest.TestCase):

    def assert_network(self, network, task, answer):
        before = copy.deepcopy((network, task))
        if answer:
            self.assertIsNone(check_network(network, task))
        else:
            with self.assertRaises(errors.BadNetwork):
                check_network(network, task)
        self.assertTrue((network, task) == before)

    def test_right_ones(self):
        for network in NETWORKS:
            self.assert_network(network, TASKS[len(network[2])], True)
        self.assertIsNone(check_network(task=TASKS[2], network=NETWORK))

    def test_1_to_400_nodes(self):
        chance = random.Random(41)
        for D in (2, 3, 4):
            for n in (1, 2, 3, 10, 399, 400):
                self.assert_network(chance_network(chance, n, D, 3, 4), TASKS[D], True)
            self.assert_network(chance_network(chance, 401, D, 3, 4), TASKS[D], False)
        self.assert_network(ring((0,) * 400, (0,) * 400), TASKS[2], True)
        self.assert_network(("network", 0, ((), ()), (), ()), TASKS[2], False)

    def test_one_place_changed(self):
        answers = []
        for network in NETWORKS:
            task = TASKS[len(network[2])]
            for value in changed_values(network, OTHER_PARTS):
                answers.append(is_right_network(value, (task[1],), 3, 4))
                self.assert_network(value, task, answers[-1])
        self.assertGreater(answers.count(True), 50)
        self.assertGreater(answers.count(False), 3000)

    def test_two_black_nodes_exchanged(self):
        # Any two links of a colour exchanged are right again, one put in the place of the other is not.
        for network in NETWORKS:
            task = TASKS[len(network[2])]
            for at, column in enumerate(network[2]):
                for first, second in itertools.permutations(range(len(column)), 2):
                    twice = with_part(network, (2, at, first), column[second])
                    self.assert_network(twice, task, False)
                    self.assert_network(with_part(twice, (2, at, second), column[first]), task, True)

    def test_other_numbers_of_colours(self):
        for network in NETWORKS:
            for D in (2, 3, 4):
                self.assert_network(network, TASKS[D], len(network[2]) == D)
        for D in (0, 1, 5):
            for task in TASKS.values():
                self.assert_network(lone(D), task, False)

    def test_inputs_that_the_task_does_not_have(self):
        for p, q in itertools.product((1, 2, 3, 4), repeat=2):
            task = ("task", 2, (1, 1), ((),) * p, ((),) * q)
            for x, y in itertools.product(range(5), repeat=2):
                self.assert_network(lone(2, x, y), task, x < p and y < q)
                self.assert_network(ring((0, x), (y, 0)), task, x < p and y < q)

    def test_values_that_are_no_network(self):
        for value in NO_NETWORKS:
            self.assert_network(value, TASKS[2], False)

    def test_bad_task_goes_ahead(self):
        for task in NO_TASKS:
            for network in NO_NETWORKS + (NETWORK,):
                with self.assertRaises(errors.BadTask):
                    check_network(network, task)
                with self.assertRaises(errors.BadTask):
                    check_network(task=task, network=network)


class ViewInTest(unittest.TestCase):

    def test_by_walking(self):
        for network in NETWORKS:
            for side, node, reach in itertools.product(SIDES, range(network[1]), range(5)):
                before = copy.deepcopy(network)
                view = view_in(network, side, node, reach)
                self.assertEqual(view, walked(network, side, node, reach))
                D, p, q = numbers(TASKS[len(network[2])], side)
                self.assertIs(is_view(view, D, p, q, reach), True)
                self.assertEqual(network, before)

    def test_chance_networks(self):
        chance = random.Random(42)
        for D, n in ((2, 1), (2, 5), (3, 2), (3, 7), (4, 2), (4, 6)):
            network = chance_network(chance, n, D, 4, 4)
            for side, node, reach in itertools.product(SIDES, range(n), range(5)):
                self.assertEqual(view_in(network, side, node, reach), walked(network, side, node, reach))

    def test_small_ones_in_full(self):
        network = ring((0, 1), (2, 3))
        self.assertEqual(view_in(network, "white", 0, 0), (0,))
        self.assertEqual(view_in(network, "white", 0, 1), (0, ((2,), (3,))))
        self.assertEqual(view_in(network, "black", 1, 1), (3, ((1,), (0,))))
        self.assertEqual(view_in(network, "white", 1, 2), (1, ((3, (None, (0,))), (2, ((0,), None)))))
        # Over one of two edges one comes back by the other.
        self.assertEqual(view_in(lone(2, 1, 2), "white", 0, 2), (1, ((2, (None, (1,))), (2, ((1,), None)))))

    def test_400_nodes(self):
        network = ring(tuple(i % 4 for i in range(400)), tuple(i // 4 % 4 for i in range(400)))
        for node in (0, 1, 199, 398, 399):
            for side, reach in itertools.product(SIDES, range(5)):
                self.assertEqual(view_in(network, side, node, reach), walked(network, side, node, reach))

    def test_by_names(self):
        self.assertEqual(view_in(reach=1, node=2, side="black", network=NETWORK), walked(NETWORK, "black", 2, 1))

    def test_it_looks_at_nothing_but_the_reach(self):
        for reach in NO_REACHES:
            for side, node in itertools.product(SIDES, range(3)):
                with self.assertRaises(errors.BadReach):
                    view_in(NETWORK, side, node, reach)
            for value in (None, (), 5, "network"):
                with self.assertRaises(errors.BadReach):
                    view_in(value, "grey", -1, reach)
        # Inputs and numbers of colours that no task has.
        network = ring((7, 60), (5, 9))
        for side, node, reach in itertools.product(SIDES, range(2), range(5)):
            self.assertEqual(view_in(network, side, node, reach), walked(network, side, node, reach))
        wide = network_of(((0, 1),) * 5, (0, 1), (2, 3))
        self.assertEqual(view_in(wide, "black", 1, 2), walked(wide, "black", 1, 2))


class LabelledTest(unittest.TestCase):

    def assert_labelled(self, task, network, algorithm):
        before = copy.deepcopy((task, network, algorithm))
        rows = labelled(task, network, algorithm)
        self.assertEqual((task, network, algorithm), before)
        _, side, reach, table = algorithm
        for i in range(network[1]):
            if side == "white":
                told = table[walked(network, "white", i, reach)]
            else:
                ends = [behind(network, "white", i, colour)[1] for colour in range(1, task[1] + 1)]
                told = tuple(table[walked(network, "black", end, reach)][at] for at, end in enumerate(ends))
            self.assertEqual(rows[i], told)
        self.assertIsInstance(rows, list)
        self.assertEqual(len(rows), network[1])
        return rows

    def test_both_sides_and_all_reaches(self):
        chance = random.Random(43)
        for D, reach in itertools.product((2, 3, 4), range(4)):
            if D == 2 or reach < 2:
                p, q = (2, 2) if D < 4 else (2, 1)
            else:
                p, q = (1, 1) if D == 4 or reach == 3 else (2, 1)
            task = ("task", D, (3, 4) + (2,) * (D - 2), ((),) * p, ((),) * q)
            for side in SIDES:
                algorithm = chance_algorithm(chance, task, side, reach)
                for n in (1, 2, 5):
                    self.assert_labelled(task, chance_network(chance, n, D, p, q), algorithm)

    def test_what_solves_is_content(self):
        chance = random.Random(44)
        for task, side, least, rule in ((relay(1), "white", 2, relay_row), (echo(2), "white", 1, echo_row),
                                        (echo(3), "white", 1, echo_row),
                                        (echo(2), "black", 0, lambda view: view[:1] * 2)):
            for reach in range(least, 4 if task[1] == 2 else 2):
                algorithm = made(task, side, reach, rule)
                self.assertIsNone(flaw_of(task, algorithm))
                for n in (1, 2, 3, 8):
                    network = chance_network(chance, n, task[1], len(task[3]), len(task[4]))
                    self.assertIs(is_content(task, network, self.assert_labelled(task, network, algorithm)), True)
        task = ("task",) + relay(1)[1:3] + relay(1)[:2:-1]
        for reach in (1, 2, 3):
            algorithm = made(task, "white", reach, turned_relay_row)
            self.assertIsNone(flaw_of(task, algorithm))
            for network in NETWORKS[3:6]:
                network = network[:3] + (network[4], network[3])
                network = with_part(network, (3,), (0,) * network[1])
                self.assertIs(is_content(task, network, labelled(task, network, algorithm)), True)

    def test_400_nodes(self):
        chance = random.Random(45)
        task = TASKS[4]
        network = chance_network(chance, 400, 4, 3, 4)
        self.assert_labelled(task, network, chance_algorithm(chance, task, "white", 1))
        self.assert_labelled(task, network, chance_algorithm(chance, task, "black", 1))

    def test_by_names(self):
        algorithm = made(echo(2), "black", 0, lambda view: view[:1] * 2)
        rows = labelled(algorithm=algorithm, network=ring((0, 0), (0, 1)), task=echo(2))
        self.assertEqual(rows, [(0, 1), (1, 0)])

    def test_the_list_is_the_callers(self):
        for side, reach in itertools.product(SIDES, range(3)):
            algorithm = made(echo(2), side, reach, lambda view: (0, 1))
            network = ring((0, 0), (0, 1))
            first = labelled(echo(2), network, algorithm)
            told = list(first)
            first[0] = None
            first.append(5)
            self.assertEqual(labelled(echo(2), network, algorithm), told)
            # What was returned does not change with the table.
            second = labelled(echo(2), network, algorithm)
            algorithm[3].clear()
            self.assertEqual(second, told)

    def test_the_order_of_the_errors(self):
        right = made(TASKS[2], "white", 1, lambda view: (0, 0))
        for task in NO_TASKS:
            for network in (NETWORK, None, lone(3)):
                for algorithm in (right, None):
                    with self.assertRaises(errors.BadTask):
                        labelled(task, network, algorithm)
        for network in NO_NETWORKS:
            for algorithm in (right,) + NO_ALGORITHMS:
                with self.assertRaises(errors.BadNetwork):
                    labelled(TASKS[2], network, algorithm)
        for algorithm in NO_ALGORITHMS + (made(echo(3), "white", 0, lambda view: (0, 0, 0)),
                                          made(TASKS[2], "white", 1, lambda view: (0, 2))):
            with self.assertRaises(errors.BadAlgorithm):
                labelled(TASKS[2], NETWORK, algorithm)


class IsContentTest(unittest.TestCase):

    def assert_content(self, task, network, rows, answer):
        before = copy.deepcopy((task, network, rows))
        self.assertIs(is_content(task, network, rows), answer)
        self.assertTrue((task, network, rows) == before)

    def content_ones(self):
        """Networks for echo, with rows that are allowed at all nodes: each edge has the input of its black node."""
        for network in NETWORKS:
            D = len(network[2])
            network = network_of(network[2], (0,) * network[1], tuple(number % 2 for number in network[4]))
            rows = [tuple(network[4][column[i]] for column in network[2]) for i in range(network[1])]
            yield echo(D), network, rows

    def test_allowed_at_all_nodes(self):
        for task, network, rows in self.content_ones():
            self.assert_content(task, network, rows, True)
            self.assert_content(task, network, tuple(rows), True)
            self.assertIs(is_content(rows=rows, network=network, task=task), True)

    def test_one_label_changed(self):
        for task, network, rows in self.content_ones():
            for path in paths_of(tuple(rows)):
                if len(path) == 2:
                    label = at_path(rows, path)
                    self.assert_content(task, network, with_part(tuple(rows), path, 1 - label), False)
                    self.assert_content(task, network, list(with_part(tuple(rows), path, 1 - label)), False)

    def test_what_is_no_row(self):
        for task, network, rows in self.content_ones():
            for at, row in enumerate(rows):
                wrong = [list(row), row[:-1], row + (0,), (), None, 0, "00", {}, (row,), tuple(bool(a) for a in row)]
                for colour in range(len(row)):
                    wrong.extend([with_part(row, (colour,), label)
                                  for label in (True, False, None, -1, 2, HUGE, "0", (0,), [0])])
                for value in wrong:
                    for make in (list, tuple):
                        self.assert_content(task, network, make(rows[:at] + [value] + rows[at + 1:]), False)

    def test_all_rows_of_small_networks(self):
        answers = []
        for task in chance_tasks(12, [(2, 2), (3, 2), (2, 3)], 60):
            for network in (ring((0, 0), (0, 0)), lone(2), ring((0, 1), (1, 0))):
                network = network_of(network[2], tuple(x % len(task[3]) for x in network[3]),
                                     tuple(y % len(task[4]) for y in network[4]))
                for rows in itertools.product(every_row(task[2]), repeat=network[1]):
                    answers.append(told_content(task, network, rows))
                    self.assert_content(task, network, list(rows), answers[-1])
        self.assertGreater(answers.count(True), 50)
        self.assertGreater(answers.count(False), 50)

    def test_a_side_that_is_not_content(self):
        network = ring((0, 0), (0, 0))
        for white, black, answer in ((((0, 0),), ((0, 0),), True), (((0, 1),), ((0, 0),), False),
                                     (((0, 0),), ((0, 1),), False), (((0, 0),), (), False), ((), ((0, 0),), False)):
            self.assert_content(("task", 2, (2, 2), (white,), (black,)), network, [(0, 0)] * 2, answer)

    def test_400_nodes(self):
        chance = random.Random(46)
        for D in (2, 3, 4):
            network = chance_network(chance, 400, D, 1, 2)
            rows = [tuple(network[4][column[i]] for column in network[2]) for i in range(400)]
            self.assert_content(echo(D), network, rows, True)
            self.assert_content(echo(D), network, rows[1:] + rows[:1], told_content(echo(D), network, rows[1:] + rows[:1]))
            rows[399] = tuple(1 - label for label in rows[399])
            self.assert_content(echo(D), network, rows, False)

    def test_another_number_of_rows(self):
        for task, network, rows in self.content_ones():
            self.assert_content(task, network, rows[:-1], False)
            self.assert_content(task, network, rows + rows[:1], False)

    def test_the_order_of_the_errors(self):
        for task in NO_TASKS:
            for network in (NETWORK, None):
                with self.assertRaises(errors.BadTask):
                    is_content(task, network, [(0, 0)] * 3)
        for network in NO_NETWORKS:
            for rows in ([(0, 0)] * 3, [(0, 5)] * 3, []):
                with self.assertRaises(errors.BadNetwork):
                    is_content(TASKS[2], network, rows)


class NetworkShowingTest(unittest.TestCase):

    def assert_shown(self, task, flaw):
        before = copy.deepcopy((task, flaw))
        network = network_showing(task, flaw)
        self.assertEqual((task, flaw), before)
        kind, view = flaw
        self.assertEqual(network, told_showing(task[1], kind, view))
        self.assertIsNone(check_network(network, task))
        reach = 0
        while not is_view(view, *numbers(task, "white" if kind == "own" else "black"), reach):
            reach += 1
        self.assertEqual(view_in(network, "white" if kind == "own" else "black", 0, reach), view)
        return network

    def test_small_ones_in_full(self):
        task = TASKS[2]
        self.assertEqual(self.assert_shown(task, ("own", (2,))), lone(2, 2, 0))
        # The twins are black 2 of white 0, and white 1 and 2 of black 0 and 1.
        self.assertEqual(self.assert_shown(task, ("own", (2, ((1,), (3,))))),
                         ("network", 3, ((0, 2, 1), (1, 0, 2)), (2, 0, 0), (1, 3, 0)))
        # The twins are white 2 of black 0, and black 1 and 2 of white 0 and 1.
        self.assertEqual(self.assert_shown(task, ("other", (3, ((1,), (2,))))),
                         ("network", 3, ((0, 2, 1), (1, 0, 2)), (1, 2, 0), (3, 0, 0)))

    def test_all_small_views(self):
        for D, reach in ((2, 0), (2, 1), (2, 2), (3, 0), (3, 1), (4, 0), (4, 1)):
            task = ("task", D, (1,) * D, ((),) * 2, ((),) * 2)
            for kind, side in (("own", "white"), ("other", "black")):
                if kind == "own" or reach > 0:
                    for view in all_views(*numbers(task, side), reach):
                        self.assert_shown(task, (kind, view))

    def test_large_views(self):
        chance = random.Random(47)
        for D, reach in itertools.product((2, 3, 4), range(5)):
            network = chance_network(chance, 30, D, 3, 4)
            for node in range(3):
                if reach < 4:
                    self.assert_shown(TASKS[D], ("own", walked(network, "white", node, reach)))
                if reach > 0:
                    self.assert_shown(TASKS[D], ("other", walked(network, "black", node, reach)))

    def test_numbers_of_nodes(self):
        # With D 4 a view of reach 4 tells of 1 + 4 + 12 + 36 + 108 nodes.
        network = chance_network(random.Random(48), 5, 4, 3, 4)
        self.assertEqual(self.assert_shown(TASKS[4], ("other", walked(network, "black", 0, 4)))[1], 161)
        self.assertEqual(self.assert_shown(TASKS[4], ("own", walked(network, "white", 0, 3)))[1], 53)

    def test_an_algorithm_with_the_flaw_makes_a_row_that_is_not_allowed(self):
        chance = random.Random(49)
        kinds = []
        for task in chance_tasks(40, [(2, 2), (3, 2), (2, 2, 2)], 60):
            for reach in range(4 if task[1] == 2 else 2):
                for part in (0, 80, 100):
                    algorithm = chance_algorithm(chance, task, "white", reach, part)
                    flaw = flaw_of(task, algorithm)
                    if flaw is not None:
                        kinds.append(flaw[0] + str(reach))
                        self.assertIs(is_flaw(task, algorithm, flaw), True)
                        network = self.assert_shown(task, flaw)
                        rows = labelled(task, network, algorithm)
                        self.assertIs(is_content(task, network, rows), False)
                        if flaw[0] == "own":
                            self.assertNotIn(rows[0], task[3][flaw[1][0]])
                            self.assertEqual(rows[0], row_at(algorithm, flaw[1]))
                        else:
                            self.assertNotIn(rows_of_black(network, rows)[0], task[4][flaw[1][0]])
        self.assertEqual(len(set(kinds)), 8)

    def test_by_names_and_wrong_tasks(self):
        flaw = ("own", (0, ((0,), (1,))))
        self.assertEqual(network_showing(flaw=flaw, task=TASKS[2]), told_showing(2, *flaw))
        for task in NO_TASKS:
            with self.assertRaises(errors.BadTask):
                network_showing(task, flaw)
            with self.assertRaises(errors.BadTask):
                network_showing(task, None)


if __name__ == "__main__":
    unittest.main()
