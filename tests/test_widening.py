"""farther, crossed, both and parts_of of looksfar.widening."""

import copy
import itertools
import random
import unittest

from looksfar import errors
from looksfar.algorithms import check_algorithm, flaw_of
from looksfar.tasks import check_task, turned
from looksfar.views import all_views
from looksfar.widening import both, crossed, farther, parts_of
from tests.changing import with_part
from tests.examples import (
    chance_algorithm, chance_task, chance_tasks, echo, echo_row, every_row, made, numbers, other, relay, relay_row,
    turned_relay_row, unlike)
from tests.told import Tree, all_flaws, told_both, told_by_others

TASK = ("task", 2, (2, 3), (((0, 1), (1, 0)), ((0, 2),)), (((0, 0), (0, 2), (1, 1)),))
NO_TASKS = (None, (), list(TASK), TASK[:4], with_part(TASK, (1,), True), with_part(TASK, (3, 0), [(0, 1)]))
NO_ALGORITHMS = (None, (), 0, "algorithm", [], {}, ("algorithm", "white", 1, {}), ("algorithm", "grey", 1, {}),
                 ("algorithm", "white", 3, {}), ("algorithm", "white", 4, {}))


def wide(D, p, q):
    row = (0,) * D
    return ("task", D, (1,) * D, ((row,),) * p, ((row,),) * q)


def zeros(task, side, reach):
    return made(task, side, reach, lambda view: (0,) * task[1])


class WideningTest(unittest.TestCase):

    def algorithms(self):
        chance = random.Random(7)
        for task in chance_tasks(12, [(2, 2), (2, 3), (2, 2, 2), (2, 1, 2, 1)], 80):
            for side in ("white", "black"):
                for reach in range(3 if task[1] == 2 else 1):
                    yield task, chance_algorithm(chance, task, side, reach)

    def test_farther_gives_the_row_of_the_shorter_view(self):
        for task, algorithm in self.algorithms():
            _, side, reach, table = algorithm
            before = copy.deepcopy((task, algorithm))
            answer = farther(task, algorithm)
            self.assertEqual((task, algorithm), before)
            self.assertEqual(answer[:3], ("algorithm", side, reach + 1))
            self.assertEqual(list(answer[3]), all_views(*numbers(task, side), reach + 1))
            for view, row in answer[3].items():
                self.assertEqual(row, table[Tree(view).view(task[1], 0, reach)])
            self.assertIsNone(check_algorithm(task, answer))

    def test_crossed_gives_the_labels_that_the_neighbours_tell(self):
        for task, algorithm in self.algorithms():
            _, side, reach, _ = algorithm
            before = copy.deepcopy((task, algorithm))
            answer = crossed(task, algorithm)
            self.assertEqual((task, algorithm), before)
            self.assertEqual(answer[:3], ("algorithm", other(side), reach + 1))
            self.assertEqual(list(answer[3]), all_views(*numbers(task, other(side)), reach + 1))
            for view, row in answer[3].items():
                self.assertEqual(row, told_by_others(task, algorithm, view))
            self.assertIsNone(check_algorithm(task, answer))

    def test_small_ones_in_full(self):
        task = echo(2)
        sighted = made(task, "black", 0, lambda view: view * 2)
        self.assertEqual(farther(task, sighted), ("algorithm", "black", 1, {
            (0, ((0,), (0,))): (0, 0), (1, ((0,), (0,))): (1, 1)}))
        self.assertEqual(crossed(task, sighted), made(task, "white", 1, echo_row))
        self.assertEqual(farther(algorithm=sighted, task=task), farther(task, sighted))
        self.assertEqual(crossed(algorithm=sighted, task=task), crossed(task, sighted))

    def test_what_has_no_flaw_stays_without_one(self):
        for task, side, reach, rule in (
                (relay(1), "white", 2, relay_row), (relay(1), "black", 1, turned_relay_row),
                (turned(relay(1)), "white", 1, turned_relay_row), (turned(relay(1)), "black", 2, relay_row),
                (echo(2), "white", 1, echo_row), (echo(2), "black", 0, lambda view: view * 2)):
            algorithm = made(task, side, reach, rule)
            self.assertIsNone(flaw_of(task, algorithm))
            while algorithm[2] < 3:
                self.assertIsNone(flaw_of(task, crossed(task, algorithm)))
                algorithm = farther(task, algorithm)
                self.assertIsNone(flaw_of(task, algorithm))
        for D in (3, 4):
            algorithm = crossed(echo(D), made(echo(D), "black", 0, lambda view: view * D))
            self.assertEqual(algorithm, made(echo(D), "white", 1, echo_row))
            self.assertIsNone(flaw_of(echo(D), algorithm))

    def test_the_least_reaches_differ_by_one(self):
        algorithm = made(relay(1), "white", 2, relay_row)
        self.assertEqual(crossed(relay(1), made(relay(1), "black", 1, turned_relay_row)), algorithm)

    def test_changed_tables_change_no_later_answer(self):
        for widen in (farther, crossed):
            algorithm = made(echo(2), "white", 1, echo_row)
            given = copy.deepcopy(algorithm)
            first = widen(echo(2), algorithm)
            before = copy.deepcopy(first)
            widen(echo(2), algorithm)[3].clear()
            self.assertEqual((first, algorithm), (before, given))
            self.assertEqual(widen(echo(2), algorithm), before)
            algorithm[3].clear()
            self.assertEqual(first, before)


class WideningErrorsTest(unittest.TestCase):

    def assert_raises(self, error, task, algorithm, widens=(farther, crossed)):
        before = copy.deepcopy((task, algorithm))
        for widen in widens:
            with self.assertRaises(error) as caught:
                widen(task, algorithm)
            self.assertIs(caught.exception.__class__, error)
        self.assertEqual((task, algorithm), before)

    def test_wrong_tasks(self):
        for task in NO_TASKS:
            for algorithm in NO_ALGORITHMS + (zeros(TASK, "white", 3), zeros(TASK, "black", 1)):
                self.assert_raises(errors.BadTask, task, algorithm)

    def test_wrong_algorithms(self):
        for task in (TASK, wide(4, 4, 4)):
            for algorithm in NO_ALGORITHMS:
                self.assert_raises(errors.BadAlgorithm, task, algorithm)
        self.assert_raises(errors.BadAlgorithm, TASK, zeros(echo(2), "white", 1))
        self.assert_raises(errors.BadAlgorithm, TASK, made(TASK, "white", 1, lambda view: (2, 0)))

    def test_reach_3(self):
        for side in ("white", "black"):
            self.assert_raises(errors.BadReach, TASK, zeros(TASK, side, 3))
            # There would be too many views as well.
            self.assert_raises(errors.BadReach, wide(2, 4, 4), zeros(wide(2, 4, 4), side, 3))
            self.assert_raises(errors.BadReach, wide(3, 2, 1), zeros(wide(3, 2, 1), side, 3))

    def test_too_many_views(self):
        # Of reach 2, for D 4, there are 3 * 27 ** 4 black views and 81 white ones.
        task = wide(4, 1, 3)
        self.assert_raises(errors.TooMany, task, zeros(task, "black", 1), (farther,))
        self.assert_raises(errors.TooMany, task, zeros(task, "white", 1), (crossed,))
        self.assertEqual(farther(task, zeros(task, "white", 1)), zeros(task, "white", 2))
        self.assertEqual(crossed(task, zeros(task, "black", 1)), zeros(task, "white", 2))
        task = wide(3, 4, 4)
        for side in ("white", "black"):
            self.assert_raises(errors.TooMany, task, zeros(task, side, 1))

    def test_many_views_but_not_too_many(self):
        task = wide(4, 2, 2)
        for widen, side in ((farther, "white"), (crossed, "black")):
            self.assertEqual(len(widen(task, zeros(task, side, 1))[3]), 131072)


def pairs_of_tasks():
    """Pairs of tasks that go together."""
    chance = random.Random(8)
    pairs = []
    for first, second in (((2, 2), (2, 3)), ((1, 2), (3, 1)), ((2, 3), (3, 2)), ((2, 1, 2), (1, 2, 2)),
                          ((2, 1, 1, 2), (1, 2, 2, 1))):
        for part in (50, 90):
            p, q = chance.randint(1, 2), chance.randint(1, 3)
            pairs.append((chance_task(chance, len(first), first, p, q, part),
                          chance_task(chance, len(second), second, p, q, part)))
    return pairs


class BothTest(unittest.TestCase):

    def test_against_the_words_of_the_document(self):
        for first, second in pairs_of_tasks():
            before = copy.deepcopy((first, second))
            answer = both(first, second)
            self.assertEqual((first, second), before)
            self.assertEqual(answer, told_both(first, second))
            self.assertIsNone(check_task(answer))

    def test_a_small_one_in_full(self):
        first = ("task", 2, (2, 2), (((0, 0), (1, 1)),), (((0, 1),), ()))
        second = ("task", 2, (1, 3), (((0, 1), (0, 2)),), (((0, 0), (0, 2)), ((0, 0),)))
        self.assertEqual(both(first, second), (
            "task", 2, (2, 6), (((0, 1), (0, 2), (1, 4), (1, 5)),), (((0, 3), (0, 5)), ())))
        self.assertEqual(both(second=second, first=first), both(first, second))

    def test_rows_in_ascending_order(self):
        # Put side by side the rows come as (0, 0), (0, 1), .. of the first, which is not the order of the new ones.
        every = every_row((2, 2))
        task = ("task", 2, (2, 2), (every,), (every,))
        self.assertEqual(both(task, task)[3:], ((every_row((4, 4)),),) * 2)

    def test_wrong_tasks(self):
        for wrong in NO_TASKS:
            for pair in ((wrong, TASK), (TASK, wrong), (wrong, wrong), (wrong, echo(2))):
                before = copy.deepcopy(pair)
                with self.assertRaises(errors.BadTask):
                    both(*pair)
                with self.assertRaises(errors.BadTask):
                    parts_of(*pair, None)
                self.assertEqual(pair, before)

    def test_tasks_that_do_not_go_together(self):
        task = wide(2, 2, 3)
        large = ("task", 3, (60, 60, 1), ((),), ((),))
        others = [wide(3, 2, 3), wide(2, 1, 3), wide(2, 3, 3), wide(2, 2, 2), wide(2, 2, 4), wide(2, 3, 2), large]
        for another in others:
            for pair in ((task, another), (another, task)):
                with self.assertRaises(errors.BadTask):
                    both(*pair)
                with self.assertRaises(errors.BadTask):
                    parts_of(*pair, None)
        # Ahead of the look at the numbers of labels.
        with self.assertRaises(errors.BadTask):
            both(large, ("task", 3, (60, 60, 1), ((),), ((), ())))

    def test_bounds(self):
        def sized(labels):
            return ("task", len(labels), labels, ((), ()), ((),))
        for first, second, right in (
                ((10, 1), (6, 1), True), ((31, 1), (2, 1), False), ((1, 8), (1, 8), False),
                ((1, 12), (1, 5), True), ((10, 4), (6, 10), True), ((9, 10), (6, 6), True), ((60, 1), (1, 60), True),
                ((10, 10, 2), (2, 2, 5), True), ((10, 10, 2), (2, 2, 6), False), ((10, 10, 10, 1), (1, 1, 1, 4), True),
                ((29, 23, 1), (1, 1, 6), False), ((2, 2, 2, 1), (10, 5, 10, 1), True), ((60, 60), (1, 2), False)):
            for pair in ((first, second), (second, first)):
                if right:
                    answer = both(sized(pair[0]), sized(pair[1]))
                    self.assertEqual(answer, sized(tuple(m * n for m, n in zip(*pair))))
                else:
                    with self.assertRaises(errors.TooMany):
                        both(sized(pair[0]), sized(pair[1]))
                    with self.assertRaises(errors.TooMany):
                        parts_of(sized(pair[0]), sized(pair[1]), None)


class PartsTest(unittest.TestCase):

    def test_the_labels_in_parts(self):
        chance = random.Random(9)
        for first, second in pairs_of_tasks():
            task = both(first, second)
            for side in ("white", "black"):
                for reach in range(2 if task[1] == 2 else 1):
                    algorithm = chance_algorithm(chance, task, side, reach, 50)
                    before = copy.deepcopy((first, second, algorithm))
                    parts = parts_of(first, second, algorithm)
                    self.assertEqual((first, second, algorithm), before)
                    self.assertIsInstance(parts, tuple)
                    for part, each in zip(parts, (first, second)):
                        self.assertEqual(part[:3], algorithm[:3])
                        self.assertIsNone(check_algorithm(each, part))
                    for view, row in algorithm[3].items():
                        pairs = zip(parts[0][3][view], parts[1][3][view], second[2])
                        self.assertEqual(tuple(a * many + b for a, b, many in pairs), row)

    def test_it_solves_exactly_if_both_parts_do(self):
        chance = random.Random(10)
        seen = set()
        for first, second in itertools.product((echo(2), unlike(2)[:4] + (unlike(2)[4] * 2,)), repeat=2):
            task = both(first, second)
            for _ in range(20):
                algorithm = chance_algorithm(chance, task, "black", 0, 95)
                parts = parts_of(first, second, algorithm)
                flaws = [all_flaws(task, algorithm), all_flaws(first, parts[0]), all_flaws(second, parts[1])]
                self.assertEqual(not flaws[0], not flaws[1] and not flaws[2])
                seen.add(tuple(not each for each in flaws))
        self.assertIn((True, True, True), seen)
        self.assertIn((False, True, False), seen)

    def test_a_small_one_in_full(self):
        first, second = wide(2, 1, 2), echo(2)
        algorithm = made(both(first, second), "white", 1, echo_row)
        self.assertEqual(parts_of(algorithm=algorithm, second=second, first=first),
                         (zeros(first, "white", 1), made(second, "white", 1, echo_row)))
        self.assertEqual(parts_of(second, first, algorithm),
                         (made(second, "white", 1, echo_row), zeros(first, "white", 1)))

    def test_wrong_algorithms(self):
        second = unlike(2)[:4] + (unlike(2)[4] * 2,)
        wrong = (made(both(echo(2), second), "white", 1, lambda view: (4, 0)), zeros(wide(2, 1, 1), "white", 1))
        for algorithm in NO_ALGORITHMS + wrong:
            before = copy.deepcopy(algorithm)
            with self.assertRaises(errors.BadAlgorithm):
                parts_of(echo(2), second, algorithm)
            self.assertEqual(algorithm, before)

    def test_changed_tables_change_no_later_answer(self):
        task = both(echo(2), echo(2))
        algorithm = zeros(task, "white", 1)
        one, two = parts_of(echo(2), echo(2), algorithm)
        one[3].clear()
        self.assertEqual(two, zeros(echo(2), "white", 1))
        algorithm[3][(0, ((0,), (0,)))] = (3, 3)
        self.assertEqual(two, zeros(echo(2), "white", 1))
        self.assertEqual(parts_of(echo(2), echo(2), zeros(task, "white", 1))[0], zeros(echo(2), "white", 1))


if __name__ == "__main__":
    unittest.main()
