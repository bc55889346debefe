"""nowhere, solved, tidied and least_reach of looksfar.deciding."""

import copy
import itertools
import random
import unittest

from looksfar import errors
from looksfar.algorithms import flaw_of
from looksfar.deciding import least_reach, nowhere, solved, tidied
from looksfar.steps import less
from looksfar.tasks import check_task, turned
from looksfar.views import all_views
from tests.changing import with_part
from tests.examples import (
    chance_tasks, echo, echo_row, every_row, made, numbers, relay, relay_row, turned_relay_2_row, turned_relay_row,
    unlike)
from tests.told import all_flaws, told_least_reach, told_nowhere, told_solved, told_tidied

TASK = ("task", 2, (2, 3), (((0, 1), (1, 0)), ((0, 2),)), (((0, 0), (0, 2), (1, 1)),))
NO_TASKS = (None, (), 5, list(TASK), TASK[:4], with_part(TASK, (1,), True), with_part(TASK, (3, 0), [(0, 1)]))
SMALL = [(2, 2), (3, 2), (2, 3), (3, 3), (1, 4), (2, 2, 2), (3, 1, 2), (2, 2, 1, 2)]


def task_with(labels, white, black):
    return ("task", len(labels), labels, white, black)


def wide(D, p, q):
    row = (0,) * D
    return ("task", D, (1,) * D, ((row,),) * p, ((row,),) * q)


class NowhereTest(unittest.TestCase):

    def assert_nowhere(self, task, table):
        before = copy.deepcopy(task)
        answer = nowhere(task)
        self.assertEqual(answer, None if table is None else ("algorithm", "white", 0, table))
        if answer is not None:
            self.assertIsNone(flaw_of(task, answer))
        self.assertEqual(task, before)

    def test_the_least_one(self):
        every = every_row((2, 2))
        self.assert_nowhere(task_with((2, 2), (every,), (every,)), {(0,): (0, 0)})
        self.assert_nowhere(task_with((2, 2), (every,), (((0, 1), (1, 1)),)), {(0,): (0, 1)})
        # The row at input 0 is looked at first, even where a later one makes that at input 1 less.
        white = (((0, 0), (1, 1)), ((0, 1), (1, 0)))
        self.assert_nowhere(task_with((2, 2), white, (every,)), {(0,): (0, 0), (1,): (0, 1)})
        self.assert_nowhere(task_with((2, 2), white, (((0, 0), (1, 0), (1, 1)),)), {(0,): (0, 0), (1,): (1, 0)})

    def test_a_row_that_leaves_none_is_passed_over(self):
        white = (((0, 0), (1, 1)), ((1, 1),))
        self.assert_nowhere(task_with((2, 2), white, (((0, 0), (1, 1)),)), {(0,): (1, 1), (1,): (1, 1)})

    def test_none(self):
        for task in (unlike(2), unlike(5), relay(1), relay(3), turned(relay(1)), echo(2), echo(4),
                     task_with((2, 2), ((),), (every_row((2, 2)),)), task_with((2, 2), (every_row((2, 2)),), ((),)),
                     task_with((2, 2), (((0, 0),), ((1, 1),)), (((0, 0), (1, 1)),)),
                     task_with((2, 2), (((0, 0),), ()), (((0, 0),),)),
                     task_with((2, 2), (((0, 0),),), (((0, 0),), ((1, 1),)))):
            self.assert_nowhere(task, None)

    def test_all_black_inputs_count(self):
        every = every_row((2, 2))
        task = task_with((2, 2), (every,), (every[1:], every[:3], every[:2] + every[3:]))
        self.assert_nowhere(task, {(0,): (0, 1)})

    def test_choices_out_of_several_rows(self):
        # Each two of the three rows go together, all three of them do not.
        rows = ((0, 0, 0), (1, 1, 1), (2, 2, 2))
        labels = (3, 3, 3)
        black = tuple(row for row in every_row(labels) if len(set(row)) < 3)
        self.assert_nowhere(task_with(labels, tuple((row,) for row in rows), (black,)), None)
        for pair in itertools.permutations(rows, 2):
            task = task_with(labels, tuple((row,) for row in pair), (black,))
            self.assert_nowhere(task, {(0,): pair[0], (1,): pair[1]})

    def test_by_name(self):
        self.assertEqual(nowhere(task=wide(2, 2, 1)), ("algorithm", "white", 0, {(0,): (0, 0), (1,): (0, 0)}))

    def test_against_the_words_of_the_document(self):
        answers = []
        for part in (40, 60, 80):
            for task in chance_tasks(60, SMALL, part):
                answers.append(told_nowhere(task))
                self.assert_nowhere(task, answers[-1])
        self.assertGreater(answers.count(None), 20)
        self.assertGreater(len([answer for answer in answers if answer is not None and len(answer) == 2]), 20)

    def test_four_inputs(self):
        chance = random.Random(14)
        for part in (50, 75):
            for _ in range(30):
                labels = chance.choice([(3, 3), (2, 2, 2), (4, 3)])
                white = tuple(tuple(row for row in every_row(labels) if chance.randrange(100) < 40) for _ in range(4))
                black = tuple(tuple(row for row in every_row(labels) if chance.randrange(100) < part) for _ in range(2))
                task = task_with(labels, white, black)
                self.assert_nowhere(task, told_nowhere(task))

    def test_labels_that_do_the_same(self):
        # Labels 0 and 2 of colour 1 have the same rows at black nodes, but not at white ones.
        black = ((0, 0), (0, 1), (1, 1), (2, 0), (2, 1))
        white = (((1, 1), (2, 0)), ((0, 0), (0, 1), (2, 0)), ((0, 1), (2, 1)))
        self.assert_nowhere(task_with((3, 2), white, (black,)), {(0,): (1, 1), (1,): (0, 1), (2,): (0, 1)})
        self.assert_nowhere(task_with((3, 2), (white[0][1:],) + white[1:], (black,)),
                            {(0,): (2, 0), (1,): (0, 0), (2,): (0, 1)})
        halves = tuple(row for row in every_row((60, 60)) if (row[0] < 30) == (row[1] < 30))
        white = tuple(tuple(row for row in halves if (row[0] < 30) == (x < 2)) for x in range(4))
        self.assert_nowhere(task_with((60, 60), white, (halves,)), None)
        self.assert_nowhere(task_with((60, 60), white[2:], (halves,)), {(0,): (30, 30), (1,): (30, 30)})

    def test_many_labels(self):
        every = every_row((60, 60))
        self.assert_nowhere(task_with((60, 60), (every,) * 4, (every,) * 4), {(x,): (0, 0) for x in range(4)})
        thirds = tuple(row for row in every if row[0] % 4 == row[1] % 4)
        white = [tuple(row for row in every if row[0] % 4 == x) for x in range(4)]
        self.assert_nowhere(task_with((60, 60), tuple(white), (thirds,)), None)
        self.assert_nowhere(task_with((60, 60), tuple(white[1:2]) * 4, (thirds,)), {(x,): (1, 1) for x in range(4)})

    def test_wrong_tasks(self):
        for task in NO_TASKS:
            with self.assertRaises(errors.BadTask):
                nowhere(task)

    def test_changed_tables_change_no_later_answer(self):
        first = nowhere(wide(2, 2, 1))
        first[3].clear()
        self.assertEqual(len(nowhere(wide(2, 2, 1))[3]), 2)


class SolvedTest(unittest.TestCase):

    def assert_solved(self, task, reach):
        before = copy.deepcopy(task)
        answer = solved(task, reach)
        self.assertEqual(task, before)
        told = told_solved(task, reach)
        self.assertEqual(answer, None if told is None else ("algorithm", "white", reach, told))
        if answer is not None:
            self.assertIsNone(flaw_of(task, answer))
        return answer

    def test_relays_and_echoes(self):
        for task, least, rule in ((relay(1), 2, relay_row), (turned(relay(1)), 1, turned_relay_row),
                                  (turned(relay(2)), 3, turned_relay_2_row), (echo(2), 1, echo_row)):
            for reach in range(4):
                answer = solved(task, reach)
                if reach < least:
                    self.assertIsNone(answer)
                else:
                    self.assertEqual(answer, made(task, "white", reach, rule))
                    self.assertIsNone(flaw_of(task, answer))
        for D in (3, 4):
            self.assertIsNone(solved(echo(D), 0))
            self.assertEqual(solved(echo(D), 1), made(echo(D), "white", 1, echo_row))
        self.assertEqual([solved(relay(2), reach) for reach in range(4)], [None] * 4)
        self.assertEqual([solved(unlike(2), reach) for reach in range(4)], [None] * 4)

    def test_by_names(self):
        self.assertEqual(solved(reach=1, task=echo(2)), made(echo(2), "white", 1, echo_row))

    def test_against_the_words_of_the_document(self):
        found = {}
        for task in chance_tasks(60, [(2, 2), (3, 2), (2, 3), (2, 2, 2)], 60):
            for reach in range(3 if task[1] == 2 else 2):
                key = (reach, self.assert_solved(task, reach) is None)
                found[key] = found.get(key, 0) + 1
        self.assertEqual(len(found), 6)

    def test_none_exactly_if_every_algorithm_has_a_flaw(self):
        answers = []
        for task in chance_tasks(60, [(2, 2), (3, 2)], 50):
            views = all_views(*numbers(task, "white"), 1)
            allowed = [task[3][view[0]] for view in views]
            if max([len(rows) for rows in allowed]) ** len(views) < 3000:
                right = any(not all_flaws(task, ("algorithm", "white", 1, dict(zip(views, rows))))
                            for rows in itertools.product(*allowed))
                answers.append(right)
                self.assertEqual(solved(task, 1) is not None, right)
        self.assertGreater(answers.count(True), 10)
        self.assertGreater(answers.count(False), 10)

    def test_steps_are_taken_from_the_task_as_it_is(self):
        # Tidied, the first task has fewer labels, and then its row comes out otherwise.
        tasks = [task for task in chance_tasks(80, [(3, 3), (3, 2)], 50) if tidied(task)[0] != task]
        self.assertGreater(len([task for task in tasks if self.assert_solved(task, 1) is not None]), 5)
        task = task_with((7, 8), (((0, 0),),), (((0, 0),),))
        with self.assertRaises(errors.TooMany):
            solved(task, 1)

    def test_a_step_meets_no_rows(self):
        task = task_with((2, 2), (((0, 0),),), ((), ()))
        for reach in range(4):
            self.assertIsNone(solved(task, reach))
        # In the second step: white inputs without rows are black ones of less.
        task = task_with((2, 2), ((), ()), (((0, 0),),))
        for reach in range(4):
            self.assertIsNone(solved(task, reach))

    def test_wrong_tasks(self):
        for task in NO_TASKS:
            for reach in (0, 1, -1, None):
                with self.assertRaises(errors.BadTask):
                    solved(task, reach)

    def test_wrong_reaches(self):
        for task in (echo(2), relay(3), wide(4, 4, 4), task_with((2, 2), (((0, 0),),), ((),))):
            for reach in (-1, 4, 5, 10 ** 5000, True, False, None, "1", "", (1,), [1], {}):
                with self.assertRaises(errors.BadReach):
                    solved(task, reach)

    def test_too_many_views(self):
        for D, p, q, reach in ((4, 3, 2, 2), (4, 1, 3, 3), (3, 4, 4, 2), (4, 4, 4, 3)):
            with self.assertRaises(errors.TooMany):
                solved(wide(D, p, q), reach)
            # Ahead of the steps, which would meet no rows.
            with self.assertRaises(errors.TooMany):
                solved(wide(D, p, q)[:3] + (((),) * p, ((),) * q), reach)
        with self.assertRaises(errors.TooMany):
            solved(wide(4, 3, 1), 2)
        # Of black views there may be too many.
        for D, p, q in ((3, 2, 2), (4, 1, 3)):
            self.assertEqual(solved(wide(D, p, q), 2), made(wide(D, p, q), "white", 2, lambda view: (0,) * D))

    def test_too_many_labels(self):
        self.assertIsNone(solved(relay(3), 0))
        for task in (relay(3), unlike(6), relay(3)[:3] + (((), ()), ((),))):
            for reach in (1, 2, 3):
                with self.assertRaises(errors.TooMany):
                    solved(task, reach)
        # In the second step, also where there is no algorithm for another reason.
        for task in (unlike(5), task_with((5, 5), (unlike(5)[3][0], ()), unlike(5)[4])):
            self.assertGreater(sum(less(task)[2]), 14)
            self.assertIsNone(solved(task, 1))
            for reach in (2, 3):
                with self.assertRaises(errors.TooMany):
                    solved(task, reach)

    def test_changed_tables_change_no_later_answer(self):
        for reach in (1, 2):
            solved(echo(2), reach)[3].clear()
            self.assertEqual(solved(echo(2), reach), made(echo(2), "white", reach, echo_row))


class TidiedTest(unittest.TestCase):

    def assert_tidied(self, task, tidy, kept):
        before = copy.deepcopy(task)
        self.assertEqual(tidied(task), (tidy, kept))
        self.assertEqual(task, before)
        self.assertIsNone(check_task(tidy))

    def test_tasks_that_stay_as_they_are(self):
        for task in (relay(1), relay(2), relay(5), turned(relay(2)), echo(2), echo(4), unlike(3), wide(3, 2, 4)):
            self.assert_tidied(task, task, tuple(tuple(range(many)) for many in task[2]))

    def test_rows_struck_in_several_rounds(self):
        # Black has no label 4 at colour 1; then white has no 3 at colour 2; then black no 3 at colour 1, and so on.
        white = tuple((a, max(a - 1, 0)) for a in range(5))
        black = tuple((a, a) for a in range(4))
        self.assert_tidied(task_with((5, 5), (white,), (black,)),
                           task_with((1, 1), (((0, 0),),), (((0, 0),),)), ((0,), (0,)))

    def test_labels_numbered_anew(self):
        task = task_with((4, 5), (((0, 0), (1, 3), (3, 4)), ((1, 4),)), (((1, 3), (1, 4), (2, 1), (3, 4)), ((3, 3),)))
        tidy = task_with((2, 2), (((0, 0), (1, 1)), ((0, 1),)), (((0, 0), (0, 1), (1, 1)), ((1, 0),)))
        self.assert_tidied(task, tidy, ((1, 3), (3, 4)))
        self.assertEqual(tidied(task=task), tidied(task))

    def test_none_left(self):
        rows = (((0, 1),), ((1, 0),))
        for task in (task_with((2, 2), rows[:1], rows[1:]), task_with((2, 2), rows, ((), (), ())),
                     task_with((2, 2), ((), ()), (rows[0], rows[1], ()))):
            bare = task_with((1, 1), ((),) * len(task[3]), ((),) * len(task[4]))
            self.assert_tidied(task, bare, ((0,), (0,)))
        self.assert_tidied(task_with((3, 4, 5), ((),), ((),)), task_with((1, 1, 1), ((),), ((),)), ((0,),) * 3)

    def test_label_0_may_be_left_out(self):
        task = task_with((2, 3), (((1, 2),),), (((0, 0), (1, 2)),))
        self.assert_tidied(task, task_with((1, 1), (((0, 0),),), (((0, 0),),)), ((1,), (2,)))

    def test_a_label_may_stand_at_any_input_of_the_other_side(self):
        task = task_with((2, 2), (((0, 0), (1, 1)),), (((0, 0),), ((1, 1),), ()))
        self.assert_tidied(task, task, ((0, 1), (0, 1)))

    def test_a_label_counts_at_its_own_colour_alone(self):
        task = task_with((2, 2), (((0, 1),),), (((1, 0),),))
        self.assert_tidied(task, task_with((1, 1), ((),), ((),)), ((0,), (0,)))

    def test_against_the_words_of_the_document(self):
        labels = SMALL + [(4, 4), (5, 5), (3, 3, 3)]
        changed = 0
        for part in (10, 20, 35, 60):
            for task in chance_tasks(40, labels, part):
                tidy, kept = told_tidied(task)
                self.assert_tidied(task, tidy, kept)
                changed += tidy != task and any(tidy[3])
        self.assertGreater(changed, 20)

    def test_tidied_again_nothing_changes(self):
        for task in chance_tasks(40, SMALL, 35):
            tidy = tidied(task)[0]
            self.assert_tidied(tidy, tidy, tuple(tuple(range(many)) for many in tidy[2]))

    def test_many_labels(self):
        every = every_row((60, 60))
        full = task_with((60, 60), (every,) * 4, (every,) * 4)
        self.assert_tidied(full, full, (tuple(range(60)),) * 2)
        chain = task_with((60, 60), (tuple((a, a) for a in range(60)),), (tuple((a, a + 1) for a in range(59)),))
        self.assert_tidied(chain, task_with((1, 1), ((),), ((),)), ((0,), (0,)))

    def test_wrong_tasks(self):
        for task in NO_TASKS:
            with self.assertRaises(errors.BadTask):
                tidied(task)


class LeastReachTest(unittest.TestCase):

    # For each answer with most 6 a task that has it.
    ANSWERS = (
        (("reach", 0), wide(2, 1, 1)),
        (("reach", 0), task_with((60, 60), (((59, 59),),), (every_row((60, 60)),))),
        (("reach", 1), echo(2)),
        (("reach", 1), echo(3)),
        (("reach", 1), echo(4)),
        (("reach", 2), relay(1)),
        (("reach", 1), turned(relay(1))),
        (("reach", 4), relay(2)),
        (("reach", 3), turned(relay(2))),
        (("never", 0, 0), task_with((2, 2), ((),), ((),))),
        (("never", 0, 0), task_with((2, 2), (((0, 0),), ((1, 1),)), (((0, 0),),))),
        (("never", 0, 0), task_with((2, 2), (((0, 0),),), (((0, 0),), ((1, 1),)))),
        (("never", 0, 1), unlike(2)),
        (("never", 0, 2), task_with((2, 3), (((1, 0),), ((0, 1),)), (((0, 0), (1, 1)),))),
        (("never", 1, 2), task_with((2, 2), (((0, 0), (1, 0)), ((1, 0),)), (((1, 0),), ((0, 0),)))),
        (("never", 1, 3), task_with((2, 2), (((0, 0), (1, 1)),), (((1, 0), (1, 1)), ((0, 1),)))),
        (("never", 2, 3), task_with((2, 2), (((1, 0), (1, 1)), ((0, 0),)), (((1, 0), (1, 1)), ((0, 0),)))),
        (("never", 2, 4), task_with((2, 2), (((1, 0), (1, 1)), ((0, 1),)), (((0, 0), (1, 1)),))),
        (("never", 3, 4), task_with((2, 2), (((0, 0), (1, 0)), ((0, 0), (0, 1), (1, 0))),
                                    (((0, 1),), ((0, 0), (1, 0), (1, 1))))),
        (("never", 4, 6), task_with((3, 4), (((0, 0), (0, 3), (1, 0), (2, 2), (2, 3)),),
                                    (((0, 3), (1, 1), (2, 0)), ((0, 2),)))),
        (("unknown", 0), relay(3)),
        (("unknown", 0), unlike(8)),
        (("unknown", 1), unlike(5)),
        (("unknown", 1), unlike(4)),
        (("unknown", 2), unlike(3)),
        (("unknown", 6), task_with((2, 2), (((0, 1), (1, 1)), ((0, 1), (1, 0))), (((0, 0), (1, 1)),))),
    )

    def test_each_kind_of_answer(self):
        for answer, task in self.ANSWERS:
            before = copy.deepcopy(task)
            self.assertEqual(least_reach(task, 6), answer)
            self.assertEqual(least_reach(most=6, task=task), answer)
            self.assertEqual(task, before)

    def test_every_most(self):
        for answer, task in self.ANSWERS:
            for most in range(7):
                # An answer is found as soon as it may be, else the last one looked at is told.
                told = answer if answer[-1] <= most else ("unknown", most)
                self.assertEqual(least_reach(task, most), told)

    def test_the_task_is_tidied_first(self):
        # 16 labels, but 4 that are of use.
        small = unlike(2)
        task = task_with((8, 8), tuple(rows + ((7, 2),) for rows in small[3]), small[4])
        self.assertEqual(least_reach(task, 6), ("never", 0, 1))
        self.assertEqual(least_reach(task_with((8, 8), (((0, 0), (3, 4)),), (((0, 1), (3, 4)),)), 0), ("reach", 0))

    def test_large_ones_are_gone_through_as_far_as_may_be(self):
        task = task_with((8, 8), tuple(tuple((a, a) for a in range(8)) for _ in range(2)), unlike(8)[4])
        self.assertEqual([least_reach(task, most) for most in range(7)], [("unknown", 0)] * 7)

    def test_against_the_words_of_the_document(self):
        kinds = {}
        for part in (30, 50, 70):
            for task in chance_tasks(60, [(2, 2), (3, 2), (2, 3), (2, 2, 2)], part):
                for most in (0, 1, 2):
                    answer = told_least_reach(task, most)
                    self.assertEqual(least_reach(task, most), answer)
                    kinds[answer] = kinds.get(answer, 0) + 1
        self.assertGreater(len(kinds), 7)

    def test_against_solved(self):
        for task in chance_tasks(60, [(2, 2), (3, 2), (2, 3)], 60):
            answer = least_reach(task, 2)
            found = [reach for reach in range(3) if solved(task, reach) is not None]
            if answer[0] == "reach":
                self.assertEqual(found, list(range(answer[1], 3)))
            else:
                self.assertEqual(found, [])

    def test_wrong_tasks(self):
        for task in NO_TASKS:
            for most in (0, 6, 7, None):
                with self.assertRaises(errors.BadTask):
                    least_reach(task, most)

    def test_wrong_numbers_of_steps(self):
        for task in (wide(2, 1, 1), relay(3), task_with((2, 2), ((),), ((),))):
            for most in (-1, 7, 10 ** 5000, -10 ** 5000, True, False, None, "6", "", (1,), [1], {}):
                with self.assertRaises(errors.BadReach):
                    least_reach(task, most)


if __name__ == "__main__":
    unittest.main()
