"""read_task and write_task of looksfar.tasks."""

import itertools
import unittest

from looksfar import errors
from looksfar.tasks import check_task, read_task, write_task

TASK = ("task", 2, (2, 2), (((0, 1), (1, 0)),), (((0, 0), (1, 1)),))
TEXT = "task 2 2 2 1 1\nwhite 0,1 1,0\nblack 0,0 1,1"

LONG = ("task", 3, (12, 1, 2), (((0, 0, 1), (10, 0, 0), (11, 0, 1)), ()), (((2, 0, 0),), (), ((0, 0, 0), (3, 0, 1))))
LONG_TEXT = "task 3 12 1 2 2 3\nwhite 0,0,1 10,0,0 11,0,1\nwhite\nblack 2,0,0\nblack\nblack 0,0,0 3,0,1"


class WriteTest(unittest.TestCase):

    def test_the_given_instance(self):
        self.assertEqual(write_task(TASK), TEXT)

    def test_inputs_without_rows_and_labels_of_two_figures(self):
        self.assertEqual(write_task(task=LONG), LONG_TEXT)

    def test_no_rows_at_all(self):
        task = ("task", 4, (1, 1, 1, 60), ((),), ((), (), (), ()))
        self.assertEqual(write_task(task), "task 4 1 1 1 60 1 4\nwhite\nblack\nblack\nblack\nblack")

    def test_what_is_no_task(self):
        for value in (None, "", TEXT, list(TASK), TASK[:4], TASK[:2] + ([2, 2],) + TASK[3:],
                      TASK[:3] + (((),) * 5,) + TASK[4:]):
            with self.assertRaises(errors.BadTask):
                write_task(value)


class ReadTest(unittest.TestCase):

    def test_the_given_instance(self):
        self.assertEqual(read_task(TEXT), TASK)
        self.assertEqual(read_task(text=TEXT), TASK)

    def test_what_is_read_is_a_task(self):
        for text in (TEXT, LONG_TEXT):
            self.assertIsNone(check_task(read_task(text)))

    def test_tasks_read_back(self):
        every = tuple(itertools.product(range(10), range(10), range(40)))
        tasks = [TASK, LONG, ("task", 4, (1, 1, 1, 60), ((),), ((),) * 4),
                 ("task", 3, (10, 10, 40), (every, (), every[::7]), (every[5:9],))]
        tasks.extend([("task", 2, (60, 60), (((0, 59), (59, 0)),) * p, ((),) * q) for p in (1, 4) for q in (1, 4)])
        for task in tasks:
            self.assertEqual(read_task(write_task(task)), task)

    def test_texts_read_back(self):
        self.assertEqual(read_task(LONG_TEXT), LONG)
        self.assertEqual(write_task(read_task(LONG_TEXT)), LONG_TEXT)


class WrongTextTest(unittest.TestCase):

    def assert_wrong(self, text, place):
        with self.subTest(text[:60]):
            with self.assertRaises(errors.BadText) as caught:
                read_task(text)
            self.assertEqual(caught.exception.place, place)
            self.assertIsInstance(caught.exception.place, int)

    def with_line(self, place, line):
        lines = LONG_TEXT.split("\n")
        lines[place] = line
        return "\n".join(lines)

    def assert_wrong_line(self, place, line):
        self.assert_wrong(self.with_line(place, line), place)
        # It is the least such number, whatever comes behind.
        lines = LONG_TEXT.split("\n")[:place] + [line]
        self.assert_wrong("\n".join(lines), place)
        self.assert_wrong("\n".join(lines + ["grey"] * 9), place)

    def test_the_empty_text(self):
        self.assert_wrong("", 0)
        self.assert_wrong("\n", 0)
        self.assert_wrong("\n" + TEXT, 0)

    def test_first_lines(self):
        for line in ("task", "task 2", "task 2 2", "task 2 2 2", "task 2 2 2 1", "task 2 1 1", "task 2 2 1 1",
                     "task 2 2 2 2 1 1", "task 3 2 2 1 1", "task 1 2 1 1", "task 0 1 1", "task 5 1 1 1 1 1 1 1",
                     "task 2 0 2 1 1", "task 2 2 61 1 1", "task 2 100 2 1 1", "task 2 2 2 0 1", "task 2 2 2 1 0",
                     "task 2 2 2 5 1", "task 2 2 2 1 5", "task 3 60 60 2 1 1", "task 4 2 3 23 29 1 1",
                     "task 3 12 1 2 2 " + "3" * 5000, "task 3 " + "1" * 5000 + " 1 2 2 3",
                     "Task 2 2 2 1 1", "tasks 2 2 2 1 1", "2 2 2 1 1", "white", "task 2 2,2 1 1",
                     "task 02 2 2 1 1", "task 2 02 2 1 1", "task 2 2 2 01 1", "task 2 2 2 1 01",
                     "task 2 +2 2 1 1", "task 2 -2 2 1 1", "task 2 2. 2 1 1", "task 2 x 2 1 1", "task 2 2_0 2 1 1",
                     "task 2 \u0662 2 1 1", "task 2 \u00b2 2 1 1", "task 2 2 2 1 True",
                     " task 2 2 2 1 1", "task 2 2 2 1 1 ", "task  2 2 2 1 1", "task 2 2  2 1 1",
                     "task\t2 2 2 1 1", "task 2 2 2 1 1\r", "task 2 2 2 1 1\t", "task 2 2 2 1 1,"):
            self.assert_wrong_line(0, line)

    def test_lines_of_another_side(self):
        self.assert_wrong_line(1, "black 0,0,1")
        self.assert_wrong_line(2, "black")
        self.assert_wrong_line(3, "white")
        self.assert_wrong_line(5, "white 0,0,0")
        for place in range(1, 6):
            for line in ("", "grey", "0,0,0", "White", "whites", "BLACK", "task 3 12 1 2 2 3"):
                self.assert_wrong_line(place, line)

    def test_rows(self):
        for place in range(1, 6):
            side = "white" if place < 3 else "black"
            for rows in ("0,0", "0,0,0,0", "0", ",", ",,", "0,,0", "0,0,", ",0,0", "0;0;0", "0.0.0",
                         "12,0,0", "0,1,0", "0,0,2", "0,0,-1", "-1,0,0", "+1,0,0", "a,0,0", "60,0,0", "100,0,0",
                         "00,0,0", "01,0,0", "0,00,0", "0,0,01", "1_1,0,0", "\u0661,0,0", "\u00b9,0,0", "1" * 5000 + ",0,0",
                         "0,0,1 0,0,0", "0,0,0 0,0,0", "10,0,0 9,0,0", "1,0,0 2,0,0 1,0,1", "2,0,0 2,0,0",
                         "0,0,0  1,0,0", " 0,0,0", "0,0,0 ", "0,0,0 1,0,0 ", "0,0, 0", "0 ,0,0", "0,0,0\t1,0,0",
                         "0,0,0\r", "True,0,0", "None", "()", "0,0,0 white", "white 0,0,0"):
                self.assert_wrong_line(place, side + " " + rows)
            for line in (" " + side, side + " ", side + "\t0,0,0", side + ",0,0,0", side + "0,0,0", side + "\r",
                         " " + side + " 0,0,0"):
                self.assert_wrong_line(place, line)

    def test_lines_too_many(self):
        for line in ("", "white", "black", "black 0,0,0", "task 2 2 2 1 1", " "):
            self.assert_wrong(LONG_TEXT + "\n" + line, 6)
            self.assert_wrong(LONG_TEXT + "\n" + line + "\n", 6)
            self.assert_wrong(TEXT + "\n" + line, 3)

    def test_a_line_feed_behind_the_last_line(self):
        self.assert_wrong(TEXT + "\n", 3)
        self.assert_wrong(TEXT + "\n\n", 3)

    def test_an_empty_line_between(self):
        self.assert_wrong(TEXT.replace("\n", "\n\n"), 1)

    def test_missing_lines(self):
        lines = LONG_TEXT.split("\n")
        for many in range(1, 6):
            self.assert_wrong("\n".join(lines[:many]), many)

    def test_missing_lines_behind_a_wrong_one(self):
        self.assert_wrong("task 2 2 2 2 2\nwhite\nwhite 2,0", 2)
        self.assert_wrong("task 2 2 2 2 2\nwhite\n", 2)

    def test_a_line_too_many_behind_a_wrong_one(self):
        self.assert_wrong(self.with_line(4, "black 0,0,2") + "\nblack", 4)

    def test_other_line_ends(self):
        self.assert_wrong(TEXT.replace("\n", "\r\n"), 0)
        self.assert_wrong(TEXT.replace("\n", "\r"), 0)
        self.assert_wrong(TEXT.replace("\n", "\u2028"), 0)


if __name__ == "__main__":
    unittest.main()
