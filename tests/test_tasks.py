"""check_task, turned and row_allowed of looksfar.tasks."""

import copy
import itertools
import unittest

from looksfar import errors
from looksfar.tasks import check_task, row_allowed, turned
from tests.changing import at_path, paths_of, with_part

HUGE = 10 ** 5000
GOOD = ("task", 2, (2, 3), (((0, 1), (1, 0)), ()), (((0, 0), (0, 2), (1, 1)),))


def sided(D, labels, white=((),), black=((),)):
    return ("task", D, labels, white, black)


class TaskCase(unittest.TestCase):

    def assert_right(self, task):
        before = copy.deepcopy(task)
        self.assertIsNone(check_task(task))
        self.assertEqual(task, before)

    def assert_wrong(self, task):
        before = copy.deepcopy(task)
        with self.assertRaises(errors.BadTask):
            check_task(task)
        # Compared by hand: assertEqual would write out what is too long to be written.
        self.assertTrue(task == before)


class RightTasksTest(TaskCase):

    def test_ordinary_ones(self):
        self.assert_right(GOOD)
        self.assert_right(("task", 2, (2, 2), (((0, 1), (1, 0)),), (((0, 0), (1, 1)),)))

    def test_by_name(self):
        self.assertIsNone(check_task(task=GOOD))

    def test_numbers_of_colours(self):
        for D in (2, 3, 4):
            rows = ((0,) * D, (1,) * D)
            self.assert_right(sided(D, (2,) * D, (rows,), (rows,)))

    def test_numbers_of_labels(self):
        self.assert_right(sided(2, (1, 1), (((0, 0),),), (((0, 0),),)))
        self.assert_right(sided(2, (60, 1), (((59, 0),),), (((0, 0), (59, 0)),)))
        self.assert_right(sided(2, (1, 60), (((0, 59),),), ((),)))

    def test_products_up_to_4000(self):
        for labels in ((50, 60), (40, 50, 2), (10, 20, 20), (60, 60, 1, 1), (10, 10, 10, 4), (8, 5, 10, 10)):
            self.assert_right(sided(len(labels), labels))

    def test_numbers_of_inputs(self):
        rows = ((0, 0), (1, 1))
        for p, q in itertools.product(range(1, 5), range(1, 5)):
            self.assert_right(sided(2, (2, 2), (rows,) * p, (rows,) * q))

    def test_an_input_may_have_no_rows_or_all(self):
        every = tuple(itertools.product(range(3), range(2), range(2)))
        self.assert_right(sided(3, (3, 2, 2), ((), every), (every, (), every)))


class WrongTasksTest(TaskCase):

    def test_no_tuple_at_all(self):
        for value in (None, True, False, 0, 5, HUGE, "", "task", [], {}, list(GOOD), {"task": GOOD}, ()):
            self.assert_wrong(value)

    def test_a_list_at_each_depth(self):
        for path in paths_of(GOOD):
            part = at_path(GOOD, path)
            if isinstance(part, tuple):
                with self.subTest(path):
                    self.assert_wrong(with_part(GOOD, path, list(part)))

    def test_another_value_at_each_place(self):
        for path in paths_of(GOOD):
            for value in (True, False, None, -1, 61, HUGE, -HUGE, "0", "task ", [], {}, (None,), ((),) * 5):
                with self.subTest(path, kind=value.__class__):
                    self.assert_wrong(with_part(GOOD, path, value))

    def test_a_part_left_out_or_added(self):
        self.assert_wrong(GOOD[:4])
        self.assert_wrong(GOOD[1:])
        self.assert_wrong(GOOD + ((),))
        self.assert_wrong(GOOD + (None,))

    def test_true_and_false_where_numbers_would_be_right(self):
        self.assert_wrong(sided(2, (True, 2)))
        self.assert_wrong(sided(2, (1, 1), (((False, 0),),)))
        self.assert_wrong(sided(2, (2, 2), ((), ((0, True),))))
        self.assert_wrong(sided(2, (2, 2), ((),), (((0, 0), (True, 0)),)))

    def test_another_word(self):
        for word in ("Task", "task\n", "tasks", "", "algorithm", 0, None, ("task",)):
            self.assert_wrong((word,) + GOOD[1:])

    def test_numbers_of_colours(self):
        for D in (-2, 0, 1, 5):
            self.assert_wrong(sided(D, (1,) * max(D, 0)))
        for D, labels in ((2, (2,)), (2, (2, 2, 2)), (3, (2, 2)), (4, (1, 1, 1))):
            self.assert_wrong(sided(D, labels))

    def test_numbers_of_labels(self):
        for labels in ((0, 2), (2, 0), (-1, -1), (61, 1), (1, 61)):
            self.assert_wrong(sided(2, labels))

    def test_products_above_4000(self):
        # The least that there is is 4002: 4001 is a prime.
        for labels in ((23, 29, 6), (58, 3, 23), (23, 29, 3, 2), (60, 60, 2), (60, 60, 60, 60)):
            self.assert_wrong(sided(len(labels), labels))

    def test_numbers_of_inputs(self):
        for many in (0, 5):
            self.assert_wrong(sided(2, (2, 2), ((),) * many, ((),)))
            self.assert_wrong(sided(2, (2, 2), ((),), ((),) * many))

    def test_rows(self):
        wrong = [
            ((1, 0), (0, 1)),
            ((0, 1), (0, 0)),
            ((0, 1), (0, 1)),
            ((0, 0), (1, 1), (1, 0)),
            ((0,),),
            ((),),
            ((0, 0, 0),),
            ((2, 0),),
            ((0, 2),),
            ((-1, 0),),
            ((0, -1),),
            ((HUGE, 0),),
            (0, 1),
            ("01",),
            (None,),
            ((0, 1), None),
            ([0, 1],),
            ((0, (1,)),),
            ({0: 1, 1: 0},),
        ]
        for rows in wrong:
            with self.subTest(place=wrong.index(rows)):
                self.assert_wrong(sided(2, (2, 2), (rows,), ((),)))
                self.assert_wrong(sided(2, (2, 2), ((),), (rows,)))
                self.assert_wrong(sided(2, (2, 2), ((), rows), ((),)))
                self.assert_wrong(sided(2, (2, 2), ((),), ((), (), (), rows)))

    def test_the_error_is_of_its_own_kind(self):
        with self.assertRaises(errors.LookError) as caught:
            check_task(None)
        self.assertIsInstance(caught.exception, ValueError)
        for other in (errors.BadAlgorithm, errors.BadNetwork, errors.BadReach, errors.BadEasing,
                      errors.NoRows, errors.TooMany, errors.BadText):
            self.assertNotIsInstance(caught.exception, other)


class TurnedTest(TaskCase):

    def test_exchanges_the_sides(self):
        self.assertEqual(turned(GOOD), GOOD[:3] + (GOOD[4], GOOD[3]))
        self.assertEqual(turned(task=turned(GOOD)), GOOD)

    def test_gives_a_task_and_leaves_the_given_one(self):
        before = copy.deepcopy(GOOD)
        self.assert_right(turned(GOOD))
        self.assertEqual(GOOD, before)

    def test_wrong_tasks(self):
        for task in (None, list(GOOD), GOOD[:4], with_part(GOOD, (3, 0), [(0, 1)]), with_part(GOOD, (1,), True)):
            with self.assertRaises(errors.BadTask):
                turned(task)


class RowAllowedTest(unittest.TestCase):

    def test_just_the_rows_that_stand_there(self):
        for side, allowed in (("white", GOOD[3]), ("black", GOOD[4])):
            for number, rows in enumerate(allowed):
                for row in itertools.product(range(-1, 4), range(-1, 4)):
                    self.assertIs(row_allowed(GOOD, side, number, row), row in rows)

    def test_by_names(self):
        self.assertIs(row_allowed(row=(0, 1), number=0, side="white", task=GOOD), True)

    def test_other_sides(self):
        for side in ("", "White", "white ", "grey", None, True, 0, (), ("white",), ["white"], {"white": 0}):
            for row in ((0, 1), (0, 0), (1, 1)):
                self.assertIs(row_allowed(GOOD, side, 0, row), False)

    def test_other_numbers(self):
        for number in (-1, -2, 2, HUGE, -HUGE, True, False, None, "0", (0,), [0], {}):
            self.assertIs(row_allowed(GOOD, "white", number, (0, 1)), False)
        for number in (-1, 1):
            self.assertIs(row_allowed(GOOD, "black", number, (0, 0)), False)
        self.assertIs(row_allowed(GOOD, "black", False, (0, 0)), False)
        twice = sided(2, (2, 2), (((0, 0),), ((0, 0),)))
        self.assertIs(row_allowed(twice, "white", 1, (0, 0)), True)
        self.assertIs(row_allowed(twice, "white", True, (0, 0)), False)

    def test_other_rows(self):
        wrong = [[0, 1], (False, 1), (0, True), (False, True), (0,), (), (0, 1, 0), (0, 3), (-1, 1), (0, HUGE),
                 (None, 1), ("0", 1), ((0,), 1), ([0], 1), None, True, 0, "01", {0: 1}, ((0, 1),)]
        for row in wrong:
            self.assertIs(row_allowed(GOOD, "white", 0, row), False)

    def test_the_row_stays_as_it_was(self):
        row = [0, 1]
        row_allowed(GOOD, "white", 0, row)
        self.assertEqual(row, [0, 1])

    def test_an_input_without_rows(self):
        for row in itertools.product(range(2), range(3)):
            self.assertIs(row_allowed(GOOD, "white", 1, row), False)

    def test_a_wrong_task_comes_ahead_of_all_else(self):
        for task in (None, list(GOOD), GOOD + (0,), with_part(GOOD, (2,), (2, 61))):
            for side, number, row in (("white", 0, (0, 1)), ("grey", None, None), ("black", -1, [0, 0])):
                with self.assertRaises(errors.BadTask):
                    row_allowed(task, side, number, row)


if __name__ == "__main__":
    unittest.main()
