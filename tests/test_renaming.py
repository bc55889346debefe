"""same_up_to_names of looksfar.renaming."""

import copy
import itertools
import random
import unittest

from looksfar import errors
from looksfar.renaming import same_up_to_names
from looksfar.tasks import turned
from tests.changing import with_part
from tests.examples import chance_task, chance_tasks, echo, every_row, relay, unlike
from tests.told import renamed, told_names

TASK = ("task", 2, (2, 3), (((0, 1), (1, 0)), ((0, 2),)), (((0, 0), (0, 2), (1, 1)),))
NO_TASKS = (None, (), 5, list(TASK), TASK[:4], with_part(TASK, (1,), True), with_part(TASK, (3, 0), [(0, 1)]))


def with_rows(labels, *rows):
    """A task with no rows at its white input and these at its black one."""
    return ("task", len(labels), labels, ((),), (tuple(sorted(rows)),))


def chance_names(chance, labels):
    return tuple(tuple(chance.sample(range(many), many)) for many in labels)


def rings(*lengths):
    """Seven labels for each colour, joined by rows to rings of these lengths."""
    rows = []
    start = 0
    for many in lengths:
        for at in range(many):
            rows.extend([(start + at, start + at), (start + at, start + (at + 1) % many)])
        start += many
    return with_rows((7, 7), *rows)


class SameTest(unittest.TestCase):

    def assert_names(self, first, second, names):
        before = copy.deepcopy((first, second))
        self.assertEqual(same_up_to_names(first, second), names)
        self.assertEqual((first, second), before)

    def test_a_task_and_itself(self):
        for task in (TASK, echo(2), echo(3), echo(4), unlike(4), relay(2), turned(relay(1))):
            self.assert_names(task, task, tuple(tuple(range(many)) for many in task[2]))

    def test_by_names(self):
        self.assertEqual(same_up_to_names(second=TASK, first=TASK), ((0, 1), (0, 1, 2)))

    def test_labels_exchanged(self):
        names = ((1, 0), (2, 0, 1))
        exchanged = ("task", 2, (2, 3), (((0, 2), (1, 0)), ((1, 1),)), (((0, 0), (1, 1), (1, 2)),))
        self.assertEqual(renamed(TASK, names), exchanged)
        self.assert_names(TASK, exchanged, names)
        self.assert_names(exchanged, TASK, ((1, 0), (1, 2, 0)))

    def test_the_least_exchange(self):
        # Each label of colour 1 may have each name, which tells those of colour 2.
        first = with_rows((3, 3), (0, 0), (1, 1), (2, 2))
        second = with_rows((3, 3), (0, 1), (1, 2), (2, 0))
        self.assert_names(first, second, ((0, 1, 2), (1, 2, 0)))
        # Only the names 1 and 2 go, in either order.
        first = with_rows((3, 1), (0, 0), (1, 0))
        second = with_rows((3, 1), (1, 0), (2, 0))
        self.assert_names(first, second, ((1, 2, 0), (0,)))
        # Label 0 has to have name 1, so that label 1 cannot have the least name that would be left.
        first = with_rows((3, 2), (0, 0), (1, 1), (2, 1))
        second = with_rows((3, 2), (0, 0), (1, 1), (2, 0))
        self.assert_names(first, second, ((1, 0, 2), (1, 0)))

    def test_against_the_words_of_the_document(self):
        chance = random.Random(11)
        labels = [(2, 2), (3, 2), (3, 3), (1, 4), (2, 2, 2), (3, 1, 2), (2, 2, 1, 2)]
        answers = {True: 0, False: 0}
        for part in (20, 50, 80):
            for task in chance_tasks(30, labels, part):
                other = renamed(task, chance_names(chance, task[2]))
                self.assert_names(task, other, told_names(task, other))
                changed = chance_task(chance, task[1], task[2], len(task[3]), len(task[4]), part)
                swapped = task[:3] + (tuple(renamed(task, chance_names(chance, task[2]))[3]), other[4])
                for another in (changed, swapped):
                    told = told_names(task, another)
                    self.assert_names(task, another, told)
                    answers[told is None] += 1
        self.assertTrue(all(many > 20 for many in answers.values()), answers)

    def test_a_row_more_or_less(self):
        for task in (TASK, unlike(3), relay(2), echo(3)):
            for place in (3, 4):
                for number, rows in enumerate(task[place]):
                    if rows:
                        fewer = with_part(task, (place, number), rows[1:])
                        self.assert_names(task, fewer, None)
                        self.assert_names(fewer, task, None)

    def test_rows_moved_to_another_input_or_side(self):
        rows = (((0, 0),), ((0, 1), (1, 0)))
        task = ("task", 2, (2, 2), rows, rows)
        self.assert_names(task, task[:3] + (rows[::-1], rows), None)
        self.assert_names(task, task[:3] + (rows, rows[::-1]), None)
        self.assert_names(task, task[:3] + (rows[::-1], rows[::-1]), None)
        task = ("task", 2, (2, 2), (rows[0],), (rows[1],))
        self.assert_names(task, turned(task), None)
        self.assert_names(relay(1), turned(relay(1)), None)
        self.assert_names(unlike(3), turned(unlike(3)), None)
        # With two labels like and unlike are the same but for names.
        self.assert_names(unlike(2), turned(unlike(2)), ((0, 1), (1, 0)))

    def test_each_input_alone_is_not_enough(self):
        # For each input there are names, but not the same ones.
        first = ("task", 2, (2, 2), (((0, 0),), ((0, 0),)), ((),))
        second = ("task", 2, (2, 2), (((0, 0),), ((1, 0),)), ((),))
        self.assert_names(first, second, None)
        self.assert_names(first, first[:3] + ((((1, 1),),) * 2, ((),)), ((1, 0), (1, 0)))

    def test_other_numbers(self):
        task = with_rows((2, 2), (0, 0))
        for other in (with_rows((2, 2, 1), (0, 0, 0)), with_rows((2, 3), (0, 0)), with_rows((3, 2), (0, 0)),
                      with_rows((1, 2), (0, 0)), task[:3] + (task[3] * 2, task[4]), task[:3] + (task[3], task[4] * 2),
                      with_rows((1, 4), (0, 0)), ("task", 2, (2, 2), ((), ()), (((0, 0),),))):
            self.assert_names(task, other, None)
            self.assert_names(other, task, None)

    def test_inputs_that_would_stand_alike_side_by_side(self):
        rows = (((0, 0),), ((0, 1), (1, 0)), ())
        first = ("task", 2, (2, 2), rows[:1], rows[1:])
        self.assert_names(first, ("task", 2, (2, 2), rows[:2], rows[2:]), None)
        bare = with_rows((2, 2))
        for other in (bare[:3] + (bare[3] * 2, bare[4]), bare[:3] + (bare[3], bare[4] * 2)):
            self.assert_names(bare, other, None)
            self.assert_names(other, bare, None)

    def test_tasks_without_rows(self):
        for labels in ((2, 2), (13, 1), (7, 7), (4, 4, 3, 3)):
            task = with_rows(labels)
            self.assert_names(task, task, tuple(tuple(range(many)) for many in labels))


class LargeTest(unittest.TestCase):

    def test_names_of_many_labels(self):
        chance = random.Random(12)
        for labels in ((7, 7), (13, 1), (1, 13), (12, 2), (5, 5, 4), (4, 4, 3, 3), (11, 1, 1, 1)):
            every = every_row(labels)
            for rows in (every, every[::2], [row for row in every if sum(row) % 3 == 0],
                         [row for row in every if row[0] == row[1]], [row for row in every if row[0] != row[1]]):
                task = with_rows(labels, *rows)
                other = renamed(task, chance_names(chance, labels))
                names = same_up_to_names(task, other)
                self.assertEqual(renamed(task, names), other)
                back = same_up_to_names(other, task)
                self.assertEqual(renamed(other, back), task)

    def test_all_alike_labels(self):
        task = with_rows((13, 1), *every_row((13, 1))[3:9])
        other = with_rows((13, 1), *every_row((13, 1))[6:12])
        # The six labels from 3 on are named 6 to 11, the others 0 to 5 and 12.
        self.assertEqual(same_up_to_names(task, other), ((0, 1, 2, 6, 7, 8, 9, 10, 11, 3, 4, 5, 12), (0,)))

    def test_rows_that_part_no_labels(self):
        # Each label stands in two rows: only by going round the rings they are told apart.
        self.assertIsNone(same_up_to_names(rings(7), rings(4, 3)))
        self.assertIsNone(same_up_to_names(rings(5, 2), rings(4, 3)))
        self.assertIsNone(same_up_to_names(rings(3, 2, 2), rings(4, 3)))
        self.assertEqual(same_up_to_names(rings(4, 3), rings(3, 4)), ((3, 4, 5, 6, 0, 1, 2),) * 2)
        self.assertEqual(same_up_to_names(rings(7), rings(7)), (tuple(range(7)),) * 2)

    def test_the_least_one_on_rings(self):
        for lengths, others in (((3, 2), (2, 3)), ((5,), (5,)), ((2, 3), (2, 3))):
            first, second = [
                with_rows((5, 5), *[(a, b) for a, b in rings(*many)[4][0] if a < 5 and b < 5])
                for many in (lengths, others)]
            chance = random.Random(13)
            for _ in range(3):
                other = renamed(second, chance_names(chance, (5, 5)))
                self.assertEqual(same_up_to_names(first, other), told_names(first, other))


class NamesErrorsTest(unittest.TestCase):

    def test_wrong_tasks(self):
        wide = with_rows((60, 60))
        for wrong in NO_TASKS:
            for pair in ((wrong, TASK), (TASK, wrong), (wrong, wrong), (wrong, wide), (wide, wrong)):
                before = copy.deepcopy(pair)
                with self.assertRaises(errors.BadTask):
                    same_up_to_names(*pair)
                self.assertEqual(pair, before)

    def test_a_sum_of_15(self):
        for labels in ((7, 8), (14, 1), (1, 14), (5, 5, 5), (4, 4, 4, 3), (60, 60)):
            task = with_rows(labels)
            # Also where D, the numbers of labels or those of inputs are unlike.
            for other in (task, TASK, echo(4), with_rows((7, 7)), task[:3] + (((), ()), ((),)), with_rows((1, 20))):
                for pair in ((task, other), (other, task)):
                    with self.assertRaises(errors.TooMany):
                        same_up_to_names(*pair)

    def test_a_sum_of_14(self):
        tasks = [with_rows(labels) for labels in ((7, 7), (13, 1), (1, 13), (5, 5, 4), (4, 4, 3, 3), (1, 1, 1, 11))]
        for first, second in itertools.product(tasks, repeat=2):
            self.assertEqual(same_up_to_names(first, second) is None, first != second)


if __name__ == "__main__":
    unittest.main()
