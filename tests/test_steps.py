"""less, sets_of and made_greatest of looksfar.steps."""

import copy
import itertools
import random
import unittest

from looksfar import errors
from looksfar.steps import less, made_greatest, sets_of
from looksfar.tasks import check_task
from tests.changing import with_part
from tests.examples import chance_tasks, echo, every_row, relay, unlike
from tests.told import all_sets, greatest, told_greatest, told_step

# The instance that the document works out.
INSTANCE = ("task", 2, (2, 2), (((1, 0),),), (((0, 0), (0, 1), (1, 1)),))
NO_TASKS = (None, (), 5, list(INSTANCE), INSTANCE[:4], with_part(INSTANCE, (1,), True),
            with_part(INSTANCE, (4, 0), [(0, 1)]), with_part(INSTANCE, (2,), (2, 61)), ("task",))


def task_with(labels, white, black):
    return ("task", len(labels), labels, white, black)


def with_black(labels, *inputs):
    """A task with these rows at the black inputs, and one white row."""
    return task_with(labels, (((0,) * len(labels),),), tuple(tuple(rows) for rows in inputs))


def all_but(labels, places):
    """All rows in order but those at these places."""
    return [row for at, row in enumerate(every_row(labels)) if at not in places]


def all_but_rows(labels, rows):
    return [row for row in every_row(labels) if row not in rows]


class LessTest(unittest.TestCase):

    def assert_step(self, task, lesser, sets):
        before = copy.deepcopy(task)
        self.assertEqual(less(task), lesser)
        self.assertEqual(sets_of(task), sets)
        self.assertIsNone(check_task(less(task)))
        self.assertEqual(task, before)

    def test_the_instance_of_the_document(self):
        self.assert_step(INSTANCE, ("task", 2, (2, 2), (((0, 1), (1, 0)),), (((1, 1),),)),
                         (((0,), (0, 1)), ((1,), (0, 1))))

    def test_by_names(self):
        self.assertEqual(less(task=INSTANCE), less(INSTANCE))
        self.assertEqual(sets_of(task=INSTANCE), sets_of(INSTANCE))

    def test_an_input_without_rows(self):
        task = task_with((2, 2), (((1, 0),), ()), ((), ((0, 0), (0, 1), (1, 1)), ()))
        self.assert_step(task, ("task", 2, (2, 2), ((), ((0, 1), (1, 0)), ()), (((1, 1),), ())),
                         (((0,), (0, 1)), ((1,), (0, 1))))

    def test_all_pairs_of_unlike_labels(self):
        for many in (2, 3, 4, 5):
            sets = tuple(all_sets(many)[:-1])
            numbers = range(len(sets))
            white = tuple((a, b) for a, b in itertools.product(numbers, numbers)
                          if sorted(sets[a] + sets[b]) == list(range(many)))
            black = tuple((a, b) for a, b in itertools.product(numbers, numbers) if set(sets[a]) & set(sets[b]))
            self.assert_step(unlike(many), ("task", 2, (len(sets),) * 2, (white,), (black,)), (sets, sets))

    def test_relays(self):
        for steps in (1, 2):
            task = relay(steps)
            self.assert_step(task, task[:3] + (task[4], task[3]), (tuple((a,) for a in range(2 ** steps)),) * 2)
        turned = relay(1)[:3] + (relay(1)[4], relay(1)[3])
        self.assert_step(
            turned,
            ("task", 2, (1, 2), (((0, 0),), ((0, 1),)), (((0, 0), (0, 1)),)),
            (((0, 1),), ((0,), (1,))))

    def test_all_rows(self):
        for labels in ((1, 1), (7, 7), (13, 1), (1, 13), (5, 5, 4), (4, 4, 3, 3), (1, 1, 1, 11)):
            row = (0,) * len(labels)
            task = task_with(labels, (every_row(labels), ()), (every_row(labels),))
            self.assert_step(task, task_with((1,) * len(labels), ((row,),), ((row,), ())),
                             tuple((tuple(range(many)),) for many in labels))

    def test_the_sets_are_in_the_order_of_their_numbers(self):
        # The set (2,) is number 4, (0, 1) number 3: so the order is not that of tuples.
        task = with_black((3, 3), [(0, 0), (1, 0), (2, 1)])
        self.assertEqual(sets_of(task), (((0, 1), (2,)), ((0,), (1,))))
        self.assertEqual(less(task)[3], (((0, 0), (1, 1)),))

    def test_sets_of_several_inputs_are_numbered_together(self):
        task = task_with((2, 2), (((0, 0),), ((1, 1),)), (((0, 0), (0, 1)), ((1, 1),)))
        self.assert_step(task, ("task", 2, (2, 2), (((0, 1),), ((1, 0),)), (((0, 1),), ((1, 0), (1, 1)))),
                         (((0,), (1,)), ((1,), (0, 1))))

    def test_against_the_words_of_the_document(self):
        labels = [(2, 2), (3, 2), (2, 3), (3, 3), (1, 4), (4, 3), (2, 2, 2), (3, 2, 2), (2, 1, 3), (2, 2, 2, 2),
                  (2, 3, 1, 2)]
        for part in (30, 60, 80):
            for task in chance_tasks(40, labels, part):
                if any(task[4]):
                    with self.subTest(task=task):
                        self.assert_step(task, *told_step(task))

    def test_larger_ones_have_the_rows_that_are_greatest(self):
        for labels, places in (((7, 5), (0, 3, 9, 16, 22, 28, 34)), ((4, 3, 3), (1, 5, 12, 20, 27, 30, 35)),
                               ((3, 3, 2, 2), (0, 7, 13, 20, 33))):
            rows = all_but(labels, places)
            task = with_black(labels, rows)
            sets = sets_of(task)
            named = [tuple(column[at] for column, at in zip(sets, row)) for row in less(task)[3][0]]
            self.assertEqual(sorted(named), sorted(greatest(rows, labels)))


class StepErrorsTest(unittest.TestCase):

    def assert_raises(self, error, task):
        before = copy.deepcopy(task)
        for step in (less, sets_of):
            with self.assertRaises(error):
                step(task)
        self.assertEqual(task, before)

    def test_a_sum_of_15(self):
        for labels in ((7, 8), (8, 7), (14, 1), (1, 14), (5, 5, 5), (4, 4, 4, 3), (1, 1, 1, 12), (60, 60), (60, 1)):
            row = (0,) * len(labels)
            self.assert_raises(errors.TooMany, with_black(labels, [row]))
            # Also where there are no rows.
            self.assert_raises(errors.TooMany, task_with(labels, ((),), ((), ())))

    def test_a_sum_of_14(self):
        for labels in ((7, 7), (13, 1), (1, 13), (5, 5, 4), (4, 4, 3, 3), (1, 1, 1, 11)):
            row = (0,) * len(labels)
            lesser = less(with_black(labels, [row]))
            self.assertEqual(lesser, task_with((1,) * len(labels), ((row,),), ((row,),)))
            self.assert_raises(errors.NoRows, task_with(labels, ((row,),), ((),)))
            self.assert_raises(errors.NoRows, task_with(labels, ((), ()), ((), (), (), ())))

    def test_no_rows(self):
        self.assert_raises(errors.NoRows, INSTANCE[:4] + (((),),))
        self.assert_raises(errors.NoRows, INSTANCE[:4] + (((), ()),))
        # White rows are no matter.
        self.assertEqual(less(INSTANCE[:3] + (((),), INSTANCE[4]))[4], ((),))

    def test_more_than_60_sets_at_a_colour(self):
        self.assert_raises(errors.TooMany, unlike(6))
        self.assert_raises(errors.TooMany, unlike(7))
        self.assert_raises(errors.TooMany, task_with((6, 6, 1), (((0, 0, 0),),), (
            tuple((a, b, 0) for a, b in unlike(6)[4][0]),)))

    def test_60_sets_and_61(self):
        first = all_but_rows((6, 7), [(0, 0), (1, 1), (2, 2), (3, 0), (3, 3), (4, 4), (5, 5)])
        second = all_but_rows((6, 7), [(0, 0), (1, 1), (2, 0), (3, 3), (4, 1), (4, 3), (4, 4), (5, 5), (5, 6)])
        self.assertEqual(less(with_black((6, 7), first, second))[2], (53, 60))
        turned = [[(b, a) for a, b in rows] for rows in (first, second)]
        self.assertEqual(less(with_black((7, 6), *[sorted(rows) for rows in turned]))[2], (60, 53))
        inputs = [all_but_rows((6, 7), rows) for rows in (
            [(0, 0), (1, 1), (2, 2), (3, 0), (3, 3), (3, 5), (4, 4), (5, 4), (5, 5)],
            [(0, 0), (0, 2), (2, 2), (2, 4), (4, 4), (5, 5)],
            [(0, 0), (0, 5), (1, 1), (2, 2), (3, 6), (4, 4), (5, 5), (5, 6)])]
        # There would be 52 sets and 61, so the product is no matter.
        self.assertEqual(len({sets[1] for rows in inputs for sets in greatest(rows, (6, 7))}), 61)
        self.assert_raises(errors.TooMany, with_black((6, 7), *inputs))

    def test_products_of_4000_and_above(self):
        rows = all_but((5, 4, 5), (5, 8, 19, 26, 28, 37, 56, 59, 67, 69, 75, 78, 80, 99))
        self.assertEqual(less(with_black((5, 4, 5), rows))[2], (25, 8, 20))
        rows = all_but((6, 4, 4), (4, 11, 16, 19, 21, 31, 39, 43, 51, 53, 68, 85, 90))
        found = greatest(rows, (6, 4, 4))
        self.assertEqual([len({sets[c] for sets in found}) for c in range(3)], [26, 11, 14])
        self.assert_raises(errors.TooMany, with_black((6, 4, 4), rows))

    def test_wrong_tasks(self):
        for task in NO_TASKS:
            self.assert_raises(errors.BadTask, task)


class MadeGreatestTest(unittest.TestCase):

    def test_a_row_that_is_not_good(self):
        self.assertIsNone(made_greatest(INSTANCE, 0, ((1,), (0,))))
        self.assertIsNone(made_greatest(INSTANCE, 0, ((0, 1), (0, 1))))
        self.assertIsNone(made_greatest(INSTANCE, 0, [[1, 0], [0]]))

    def test_rows_that_are_good(self):
        self.assertEqual(made_greatest(INSTANCE, 0, ((0,), (0,))), ((0,), (0, 1)))
        self.assertEqual(made_greatest(INSTANCE, 0, ((0,), (1,))), ((0, 1), (1,)))
        self.assertEqual(made_greatest(INSTANCE, 0, ((1,), (1,))), ((0, 1), (1,)))
        self.assertEqual(made_greatest(sets=((0,), (0, 1)), number=0, task=INSTANCE), ((0,), (0, 1)))

    def test_the_order_in_which_labels_are_added(self):
        # Colour 1 comes first, and in it label 0 ahead of label 2.
        task = with_black((3, 3, 1), [(0, 0, 0), (0, 1, 0), (1, 1, 0), (2, 1, 0)])
        self.assertEqual(made_greatest(task, 0, ((0,), (1,), (0,))), ((0, 1, 2), (1,), (0,)))
        self.assertEqual(made_greatest(task, 0, ((0,), (0,), (0,))), ((0,), (0, 1), (0,)))
        labels = (3, 2, 2)
        task = with_black(labels, [row for row in every_row(labels) if row not in ((0, 1, 0), (2, 0, 1))])
        self.assertEqual(made_greatest(task, 0, ((1,), (0,), (0,))), ((0, 1, 2), (0,), (0,)))
        self.assertEqual(made_greatest(task, 0, ((1,), (1,), (1,))), ((0, 1, 2), (1,), (1,)))
        self.assertEqual(made_greatest(task, 0, ((2,), (1,), (0,))), ((1, 2), (0, 1), (0,)))

    def test_lists_and_tuples_in_any_order_with_labels_twice(self):
        for sets in (([0], [0, 1]), [(0,), (1, 0)], [[0, 0, 0], (1, 0, 1)], ((0, 0), [1, 1, 0, 0]), [[0], [0]]):
            before = copy.deepcopy(sets)
            self.assertEqual(made_greatest(INSTANCE, 0, sets), ((0,), (0, 1)))
            self.assertEqual(sets, before)

    def test_what_was_handed_in_may_change_afterwards(self):
        sets = [[0], [1]]
        row = made_greatest(INSTANCE, 0, sets)
        sets[0].append(1)
        sets.clear()
        self.assertEqual(row, ((0, 1), (1,)))

    def test_several_inputs(self):
        task = task_with((2, 2), (((0, 0),),), (((0, 0),), (), ((0, 0), (0, 1), (1, 0), (1, 1))))
        self.assertEqual(made_greatest(task, 0, ((0,), (0,))), ((0,), (0,)))
        self.assertIsNone(made_greatest(task, 1, ((0,), (0,))))
        self.assertEqual(made_greatest(task, 2, ((0,), (0,))), ((0, 1), (0, 1)))
        self.assertIsNone(made_greatest(task, 0, ((0,), (1,))))

    def test_numbers_that_are_no_input(self):
        for number in (1, 2, 4, -1, 10 ** 5000):
            self.assertIsNone(made_greatest(INSTANCE, number, ((0,), (0,))))

    def test_labels_that_there_are_not(self):
        for sets in (((2,), (0,)), ((0,), (2,)), ((0, 2), (0,)), ((-1,), (0,)), ((0,), (0, -1))):
            self.assertIsNone(made_greatest(INSTANCE, 0, sets))

    def test_more_labels_than_less_takes(self):
        labels = (60, 60)
        task = with_black(labels, [(a, b) for a, b in every_row(labels) if a // 20 == b // 20])
        third = tuple(range(20, 40))
        self.assertEqual(made_greatest(task, 0, ([25], [39])), (third, third))
        self.assertEqual(made_greatest(task, 0, (third, third)), (third, third))
        self.assertIsNone(made_greatest(task, 0, ([25], [40])))
        task = with_black((60, 1), [(1, 0), (8, 0), (32, 0)])
        self.assertEqual(made_greatest(task, 0, ((32, 1, 8), (0,))), ((1, 8, 32), (0,)))
        labels = (10, 10, 10, 4)
        task = with_black(labels, every_row(labels))
        self.assertEqual(made_greatest(task, 0, ((9,), (0,), (5,), (3,))), tuple(tuple(range(many)) for many in labels))

    def test_against_the_words_of_the_document(self):
        chance = random.Random(4)
        answers = []
        for task in chance_tasks(60, [(2, 2), (3, 3), (4, 3), (2, 2, 2), (3, 3, 2), (2, 2, 2, 2)], 80):
            for number, allowed in enumerate(task[4]):
                for _ in range(10):
                    sets = tuple(chance.choice(all_sets(many)[:4]) for many in task[2])
                    answers.append(made_greatest(task, number, sets))
                    self.assertEqual(answers[-1], told_greatest(allowed, task[2], sets))
        self.assertGreater(len([answer for answer in answers if answer is not None]), 50)
        self.assertGreater(answers.count(None), 50)

    def test_it_gives_rows_that_are_greatest(self):
        for task in chance_tasks(20, [(3, 3), (2, 2, 2)], 80):
            for number, allowed in enumerate(task[4]):
                for row in allowed:
                    self.assertIn(made_greatest(task, number, [[label] for label in row]), greatest(allowed, task[2]))

    def test_wrong_tasks(self):
        for task in NO_TASKS:
            for number, sets in ((0, ((0,), (0,))), (7, None)):
                with self.assertRaises(errors.BadTask):
                    made_greatest(task, number, sets)

    def test_the_task_stays_as_it_was(self):
        task = echo(2)
        before = copy.deepcopy(task)
        self.assertEqual(made_greatest(task, 1, ((1,), (1,))), ((1,), (1,)))
        self.assertEqual(task, before)


if __name__ == "__main__":
    unittest.main()
