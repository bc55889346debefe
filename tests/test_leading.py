"""led_down and led_up of looksfar.leading."""

import copy
import random
import unittest

from looksfar import errors
from looksfar.algorithms import check_algorithm, flaw_of
from looksfar.leading import led_down, led_up
from looksfar.steps import less
from looksfar.tasks import turned
from looksfar.views import all_views
from tests.changing import with_part
from tests.examples import (
    chance_algorithm, chance_tasks, echo, echo_row, every_row, made, relay, relay_row, turned_relay_2_row,
    turned_relay_row, unlike)
from tests.told import told_down, told_step, told_up

TASK = ("task", 2, (2, 2), (((0, 1), (1, 0)),), (((0, 0), (0, 1), (1, 1)),))
NO_TASKS = (None, (), list(TASK), TASK[:4], with_part(TASK, (1,), True), with_part(TASK, (3, 0), [(0, 1)]))
NO_ALGORITHMS = (None, (), 0, "algorithm", [], {}, ("algorithm", "white", 1, {}), ("algorithm", "grey", 1, {}),
                 ("algorithm", "white", -1, {}), ("algorithm", "white", 4, {}))


def without_rows(task):
    """The task without its black rows."""
    return task[:4] + (((),) * len(task[4]),)


def solving():
    """Tasks and white algorithms that solve them, of reach 1 to 3."""
    pairs = []
    for task, least, rule in ((relay(1), 2, relay_row), (turned(relay(1)), 1, turned_relay_row),
                              (turned(relay(2)), 3, turned_relay_2_row), (echo(2), 1, echo_row)):
        for reach in range(least, 4):
            pairs.append((task, made(task, "white", reach, rule)))
    pairs.extend([(echo(D), made(echo(D), "white", 1, echo_row)) for D in (3, 4)])
    constant = ("task", 2, (2, 2), (((1, 0),),), (((1, 0),), ((0, 1), (1, 0))))
    pairs.extend([(constant, made(constant, "white", reach, lambda view: (1, 0))) for reach in (1, 2, 3)])
    return pairs


class SolvingTest(unittest.TestCase):

    def test_led_down(self):
        for task, algorithm in solving():
            self.assertIsNone(flaw_of(task, algorithm))
            before = copy.deepcopy((task, algorithm))
            lower = led_down(task, algorithm)
            self.assertEqual((task, algorithm), before)
            self.assertEqual(lower[:3], ("algorithm", "white", algorithm[2] - 1))
            self.assertEqual(lower[3], told_down(task, algorithm))
            self.assertIsNone(flaw_of(less(task), lower))

    def test_led_up_again(self):
        for task, algorithm in solving():
            lower = led_down(task, algorithm)
            before = copy.deepcopy((task, lower))
            again = led_up(task, lower)
            self.assertEqual((task, lower), before)
            self.assertEqual(again[:3], algorithm[:3])
            self.assertEqual(again[3], told_up(task, lower))
            self.assertIsNone(flaw_of(task, again))

    def test_down_to_reach_0_and_up_again(self):
        tasks = [turned(relay(2))]
        algorithm = made(tasks[0], "white", 3, turned_relay_2_row)
        while algorithm[2] > 0:
            algorithm = led_down(tasks[-1], algorithm)
            tasks.append(less(tasks[-1]))
            self.assertIsNone(flaw_of(tasks[-1], algorithm))
        for task in reversed(tasks[:-1]):
            algorithm = led_up(task, algorithm)
            self.assertIsNone(flaw_of(task, algorithm))
        self.assertEqual(algorithm, made(tasks[0], "white", 3, turned_relay_2_row))

    def test_small_ones_in_full(self):
        task = turned(relay(1))
        lower = ("algorithm", "white", 0, {(0,): (0, 0), (1,): (0, 1)})
        self.assertEqual(led_down(task, made(task, "white", 1, turned_relay_row)), lower)
        self.assertEqual(led_up(task, lower), made(task, "white", 1, turned_relay_row))
        lower = led_down(relay(1), made(relay(1), "white", 2, relay_row))
        self.assertEqual(lower, made(less(relay(1)), "white", 1, turned_relay_row))
        self.assertEqual(led_up(relay(1), lower), made(relay(1), "white", 2, relay_row))

    def test_by_names(self):
        algorithm = made(echo(2), "white", 1, echo_row)
        lower = led_down(algorithm=algorithm, task=echo(2))
        self.assertEqual(led_up(algorithm=lower, task=echo(2)), algorithm)

    def test_sets_are_made_greatest(self):
        task = ("task", 2, (2, 2), (((0, 0),),), (((0, 0), (0, 1), (1, 1)),))
        self.assertEqual(led_down(task, made(task, "white", 1, lambda view: (0, 0)))[3], {(0,): (0, 1)})
        self.assertEqual(told_step(task)[1], (((0,), (0, 1)), ((1,), (0, 1))))

    def test_the_least_row_is_taken(self):
        task = ("task", 2, (3, 3), (((0, 2), (1, 1), (2, 0)),), (every_row((3, 3)),))
        self.assertEqual(led_up(task, ("algorithm", "white", 0, {(0,): (0, 0)}))[3], {(0, ((0,), (0,))): (0, 2)})
        task = task[:4] + ((tuple(row for row in every_row((3, 3)) if row[0] > 0),),)
        self.assertEqual(led_up(task, ("algorithm", "white", 0, {(0,): (0, 0)}))[3], {(0, ((0,), (0,))): (1, 1)})


class NotSolvingTest(unittest.TestCase):

    def test_rows_are_made_all_the_same(self):
        # The labels 1 are not allowed at the white node, but this is not looked at.
        task = ("task", 2, (2, 2), (((0, 0),),), (((0, 0), (1, 1)),))
        wrong = made(task, "white", 1, lambda view: (1, 1))
        self.assertIsNotNone(flaw_of(task, wrong))
        self.assertEqual(led_down(task, wrong), ("algorithm", "white", 0, {(0,): (1, 1)}))
        # The row (0, 1) is allowed at no black node of less, but there is a choice.
        task = ("task", 2, (2, 2), (every_row((2, 2)),), (((0, 0), (1, 1)),))
        wrong = ("algorithm", "white", 0, {(0,): (0, 1)})
        self.assertIsNotNone(flaw_of(less(task), wrong))
        self.assertEqual(led_up(task, wrong), ("algorithm", "white", 1, {(0, ((0,), (0,))): (0, 1)}))

    def test_a_row_of_sets_that_is_not_good(self):
        for reach in (1, 2, 3):
            with self.assertRaises(errors.BadAlgorithm):
                led_down(unlike(2), made(unlike(2), "white", reach, lambda view: (0, 0)))
        algorithm = made(relay(1), "white", 2, relay_row)
        algorithm[3][max(algorithm[3])] = (0, 0)
        with self.assertRaises(errors.BadAlgorithm):
            led_down(relay(1), algorithm)

    def test_no_choice_that_is_allowed(self):
        task = ("task", 2, (2, 2), (((0, 0), (1, 1)),), (((0, 0), (1, 1)),))
        for reach in (0, 1, 2):
            wrong = made(less(task), "white", reach, lambda view: (0, 1))
            self.assertIsNone(check_algorithm(less(task), wrong))
            with self.assertRaises(errors.BadAlgorithm):
                led_up(task, wrong)
        task = ("task", 2, (1, 1), (((0, 0),), ()), (((0, 0),),))
        with self.assertRaises(errors.BadAlgorithm):
            led_up(task, ("algorithm", "white", 0, {(0,): (0, 0)}))

    def test_against_the_words_of_the_document(self):
        chance = random.Random(6)
        counts = {}
        labels = [(2, 2), (3, 2), (2, 3), (2, 2, 2), (2, 1, 2)]
        tasks = chance_tasks(30, labels, 85) + chance_tasks(30, labels, 60)
        for task in [task for task in tasks if any(task[4])]:
            for reach in range(3 if task[1] == 2 else 1):
                for _ in range(3):
                    lower = chance_algorithm(chance, less(task), "white", reach, chance.choice((0, 99)))
                    self.compare(counts, "up", led_up, told_up(task, lower), task, lower)
                    steady = chance.choice([row for rows in task[4] for row in rows])
                    upper = made(task, "white", reach + 1, lambda view: steady)
                    if chance.randrange(2):
                        view = chance.choice(sorted(upper[3]))
                        upper[3][view] = chance.choice(every_row(task[2]))
                    self.compare(counts, "down", led_down, told_down(task, upper), task, upper)
        self.assertTrue(all(many > 20 for many in counts.values()), counts)
        self.assertEqual(len(counts), 4)

    def compare(self, counts, kind, lead, told, task, algorithm):
        if told is None:
            with self.assertRaises(errors.BadAlgorithm):
                lead(task, algorithm)
        else:
            reach = algorithm[2] + 1 if kind == "up" else algorithm[2] - 1
            self.assertEqual(lead(task, algorithm), ("algorithm", "white", reach, told))
        counts[kind, told is None] = counts.get((kind, told is None), 0) + 1


class OwnershipTest(unittest.TestCase):

    def test_tables_do_not_hang_together(self):
        for lead, task, algorithm in ((led_down, echo(2), made(echo(2), "white", 1, echo_row)),
                                      (led_up, echo(2), led_down(echo(2), made(echo(2), "white", 1, echo_row)))):
            first = lead(task, algorithm)
            before = copy.deepcopy(first)
            given = copy.deepcopy(algorithm)
            lead(task, algorithm)[3].clear()
            self.assertEqual(first, before)
            self.assertEqual(algorithm, given)
            self.assertEqual(lead(task, algorithm), before)
            algorithm[3].clear()
            self.assertEqual(first, before)

    def test_emptied_tables_change_no_later_answer(self):
        algorithm = made(echo(2), "white", 1, echo_row)
        lower = led_down(echo(2), algorithm)
        lower[3].clear()
        again = led_down(echo(2), algorithm)
        self.assertEqual(len(again[3]), 2)
        upper = led_up(echo(2), again)
        upper[3].clear()
        self.assertEqual(led_up(echo(2), again), algorithm)


class ErrorsCase(unittest.TestCase):

    def assert_raised(self, error, lead, task, algorithm):
        before = copy.deepcopy((task, algorithm))
        with self.assertRaises(error) as caught:
            lead(task, algorithm)
        self.assertIs(caught.exception.__class__, error)
        self.assertEqual((task, algorithm), before)


class LedDownErrorsTest(ErrorsCase):

    def assert_raises(self, error, task, algorithm):
        self.assert_raised(error, led_down, task, algorithm)

    def test_wrong_tasks(self):
        for task in NO_TASKS:
            for algorithm in NO_ALGORITHMS + (made(TASK, "white", 1, lambda view: (0, 1)),):
                self.assert_raises(errors.BadTask, task, algorithm)

    def test_wrong_algorithms(self):
        for task in (TASK, without_rows(TASK), relay(3)):
            for algorithm in NO_ALGORITHMS:
                self.assert_raises(errors.BadAlgorithm, task, algorithm)
        # One for less(task), but not for the task.
        self.assert_raises(errors.BadAlgorithm, relay(1), made(less(relay(1)), "white", 1, lambda view: (0, 0)))

    def test_black_ones(self):
        for task in (TASK, without_rows(TASK), relay(3)):
            for reach in range(4):
                self.assert_raises(errors.BadAlgorithm, task, made(task, "black", reach, lambda view: (0, 0)))

    def test_reach_0(self):
        for task in (TASK, without_rows(TASK), relay(3)):
            for row in ((0, 0), (0, 1)):
                self.assert_raises(errors.BadReach, task, made(task, "white", 0, lambda view: row))

    def test_what_less_raises(self):
        for reach in (1, 2, 3):
            for row in ((0, 0), (1, 1)):
                for task, error in ((relay(3), errors.TooMany), (without_rows(relay(3)), errors.TooMany),
                                    (without_rows(TASK), errors.NoRows), (unlike(6), errors.TooMany)):
                    self.assert_raises(error, task, made(task, "white", reach, lambda view: row))


class LedUpErrorsTest(ErrorsCase):

    def assert_raises(self, error, task, algorithm):
        self.assert_raised(error, led_up, task, algorithm)

    def test_wrong_tasks(self):
        for task in NO_TASKS:
            for algorithm in NO_ALGORITHMS + (made(less(TASK), "white", 1, lambda view: (0, 1)),):
                self.assert_raises(errors.BadTask, task, algorithm)

    def test_what_less_raises(self):
        for task, error in ((relay(3), errors.TooMany), (without_rows(relay(3)), errors.TooMany),
                            (without_rows(TASK), errors.NoRows), (unlike(6), errors.TooMany)):
            algorithms = [made(task, side, reach, lambda view: (0, 0)) for side in ("white", "black") for reach in (0, 3)]
            for algorithm in algorithms + list(NO_ALGORITHMS):
                self.assert_raises(error, task, algorithm)

    def test_wrong_algorithms(self):
        for algorithm in NO_ALGORITHMS:
            self.assert_raises(errors.BadAlgorithm, TASK, algorithm)
        # One for the task, but not for less(task).
        self.assert_raises(errors.BadAlgorithm, relay(1), made(relay(1), "white", 1, lambda view: (0, 0)))
        # A label that less(task) has not.
        self.assertEqual(less(echo(2))[2], (2, 2))
        self.assert_raises(errors.BadAlgorithm, echo(2), made(less(echo(2)), "white", 0, lambda view: (0, 2)))

    def test_black_ones(self):
        for reach in range(4):
            self.assert_raises(errors.BadAlgorithm, TASK, made(less(TASK), "black", reach, lambda view: (0, 0)))

    def test_reach_3(self):
        for row in ((0, 0), (0, 1), (1, 1)):
            self.assert_raises(errors.BadReach, TASK, made(less(TASK), "white", 3, lambda view: row))

    def wide(self, D, p, q):
        row = (0,) * D
        task = ("task", D, (1,) * D, ((row,),) * p, ((row,),) * q)
        return task, row

    def test_too_many_views(self):
        for D, p, q, reach in ((4, 3, 2, 1), (4, 4, 1, 1), (3, 4, 4, 1), (3, 3, 2, 2)):
            task, row = self.wide(D, p, q)
            self.assert_raises(errors.TooMany, task, made(less(task), "white", reach, lambda view: row))
            # Ahead of what does not solve, and behind the look at the algorithm.
            task = task[:3] + (((),) * p, task[4])
            self.assert_raises(errors.TooMany, task, made(less(task), "white", reach, lambda view: row))
            self.assert_raises(errors.BadAlgorithm, task, ("algorithm", "white", reach, {}))
        task, row = self.wide(3, 2, 1)
        self.assert_raises(errors.BadReach, task, made(less(task), "white", 3, lambda view: row))

    def test_many_views_but_not_too_many(self):
        for D, p, q, reach in ((4, 2, 2, 1), (3, 1, 2, 2), (2, 4, 4, 2)):
            task, row = self.wide(D, p, q)
            upper = led_up(task, made(less(task), "white", reach, lambda view: row))
            self.assertEqual(upper, made(task, "white", reach + 1, lambda view: row))
        self.assertEqual(len(all_views(4, 2, 2, 2)), 131072)


if __name__ == "__main__":
    unittest.main()
