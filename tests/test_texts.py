"""read_algorithm, write_algorithm, read_pairs and write_pairs of looksfar.texts."""

import copy
import itertools
import random
import re
import unittest

from looksfar import errors
from looksfar.algorithms import check_algorithm
from looksfar.easings import check_never, check_slow, never_paper, slow_paper
from looksfar.quickness import check_quick, quick_paper
from looksfar.relays import relay
from looksfar.tasks import read_task, turned, write_task
from looksfar.texts import read_algorithm, read_pairs, write_algorithm, write_pairs
from looksfar.views import all_branches, all_views
from tests.changing import with_part
from tests.examples import chance_algorithm, chance_tasks, echo, every_row, made, numbers, unlike

TASK = ("task", 2, (2, 13), (((0, 1), (1, 0)), ((0, 12),)), (((0, 0), (0, 2), (1, 1)),))
NO_TASKS = (None, (), 5, list(TASK), TASK[:4], with_part(TASK, (1,), True), with_part(TASK, (3, 0), [(0, 1)]))
NO_ALGORITHMS = (None, (), 0, "algorithm", [], {}, ("algorithm", "white", 1, {}), ("algorithm", "grey", 1, {}))

SMALL = ("task", 2, (2, 2), (((0, 1), (1, 0)),), (((0, 0), (1, 1)),))
THREE = ("task", 3, (1, 60, 2), (((0, 59, 1),), ()), ((),))
PAIRS = ((SMALL, ((0, 1), (1, 0))), (THREE, ((59, 0, 7), (10,), (0,) * 60)), (SMALL, ((3,), (3, 3, 3))))
PAIRS_TEXT = "\n".join([
    "task 2 2 2 1 1", "white 0,1 1,0", "black 0,0 1,1", "easing 0,1 1,0",
    "task 3 1 60 2 2 1", "white 0,59,1", "white", "black", "easing 59,0,7 10 " + ",".join(["0"] * 60),
    "task 2 2 2 1 1", "white 0,1 1,0", "black 0,0 1,1", "easing 3 3,3,3"])

# What stands for a number, a word or a sign, and is none.
WRONG_NUMBERS = ("", "-1", "+1", "01", "00", "1.0", "1_0", "x", "True", "None", "\u0661", "\u00b9", "9" * 5000, " 1", "1 ",
                 "1\t", "1\r", "(0", "'0'")


def told_algorithm_place(task, text):
    """The place where the text of an algorithm goes wrong, or None."""
    lines = text.split("\n")
    head = re.fullmatch("algorithm (white|black) ([0-3])", lines[0])
    if head is None:
        return 0
    many = len(all_views(*numbers(task, head[1]), int(head[2])))
    words = {",".join(map(str, row)) for row in every_row(task[2])}
    for place, line in enumerate(lines[1:], 1):
        if place > many or line not in words:
            return place
    return len(lines) if len(lines) <= many else None


def told_task_end(lines, start):
    """The place behind the task that begins there, and whether it is right; else the place where it goes wrong."""
    for many in range(1, len(lines) - start + 1):
        try:
            return start + many, bool(read_task("\n".join(lines[start:start + many])))
        except errors.BadText as error:
            if error.place < many:
                return start + error.place, False
    return len(lines), False


def told_pairs_place(text):
    """The place where the text of pairs goes wrong, or None."""
    lines = text.split("\n")
    place = 0
    while text and place < len(lines):
        D = lines[place].split(" ")[1:2]
        place, right = told_task_end(lines, place)
        if not right or place == len(lines):
            return place
        number = "([0-9]|[1-5][0-9])"
        word = number + "(," + number + "){0,59}"
        if re.fullmatch("easing" + (" " + word) * int(D[0]), lines[place]) is None:
            return place
        place += 1
    return None


class TextCase(unittest.TestCase):

    def assert_place(self, place, read, *given):
        with self.subTest(str(given[-1])[:60]):
            with self.assertRaises(errors.BadText) as caught:
                read(*given)
            self.assertEqual(caught.exception.place, place)
            self.assertIsInstance(caught.exception.place, int)


class WriteAlgorithmTest(TextCase):

    def test_in_full(self):
        algorithm = ("algorithm", "white", 0, {(1,): (0, 12), (0,): (1, 0)})
        self.assertEqual(write_algorithm(TASK, algorithm), "algorithm white 0\n1,0\n0,12")
        algorithm = ("algorithm", "black", 0, {(0,): (1, 10)})
        self.assertEqual(write_algorithm(algorithm=algorithm, task=TASK), "algorithm black 0\n1,10")
        algorithm = made(TASK, "black", 1, lambda view: tuple(branch[0] for branch in view[1]))
        self.assertEqual(write_algorithm(TASK, algorithm), "algorithm black 1\n0,0\n0,1\n1,0\n1,1")
        task = ("task", 4, (1, 1, 2, 60), ((),), ((),))
        algorithm = made(task, "white", 3, lambda view: (0, 0, 1, 59))
        self.assertEqual(write_algorithm(task, algorithm), "algorithm white 3\n0,0,1,59")

    def test_the_order_of_the_views(self):
        chance = random.Random(111)
        for task in (TASK, echo(3), relay(2)):
            for side in ("white", "black"):
                for reach in range(4 if task[1] == 2 else 2):
                    algorithm = chance_algorithm(chance, task, side, reach)
                    views = list(algorithm[3])
                    chance.shuffle(views)
                    given = algorithm[:3] + ({view: algorithm[3][view] for view in views},)
                    before = copy.deepcopy(given)
                    lines = write_algorithm(task, given).split("\n")
                    self.assertEqual(given, before)
                    self.assertEqual(list(given[3]), views)
                    self.assertEqual(lines[0], f"algorithm {side} {reach}")
                    self.assertEqual(lines[1:], [",".join(map(str, algorithm[3][view]))
                                                 for view in all_views(*numbers(task, side), reach)])

    def test_more_views_than_are_read(self):
        # Writing has no bound: here are 4 * 48 ** 3 views, which all_views would not list.
        task = ("task", 3, (1, 1, 2), ((),) * 4, ((),) * 3)
        branches = [all_branches(3, 3, 4, 1, colour) for colour in (1, 2, 3)]
        table = {(x, row): (0, 0, 0) for row in itertools.product(*branches) for x in (3, 1, 0, 2)}
        self.assertEqual(len(table), 442368)
        table[(0, tuple(part[-1] for part in branches))] = (0, 0, 1)
        text = write_algorithm(task, ("algorithm", "white", 2, table))
        self.assertTrue(text == "algorithm white 2" + "\n0,0,0" * 110591 + "\n0,0,1" + "\n0,0,0" * 331776)

    def test_the_order_of_the_errors(self):
        right = made(TASK, "white", 0, lambda view: (0, 0))
        for task in NO_TASKS:
            for algorithm in (right, None):
                with self.assertRaises(errors.BadTask):
                    write_algorithm(task, algorithm)
        for algorithm in NO_ALGORITHMS + (made(echo(3), "white", 0, lambda view: (0, 0, 0)),
                                          made(TASK, "white", 0, lambda view: (0, 13))):
            with self.assertRaises(errors.BadAlgorithm):
                write_algorithm(TASK, algorithm)


class ReadAlgorithmTest(TextCase):

    def right_ones(self):
        """Right texts, with their tasks."""
        chance = random.Random(112)
        texts = []
        for task in (TASK, SMALL, relay(2), echo(3), THREE, ("task", 4, (1, 1, 2, 60), ((),), ((),))):
            for side in ("white", "black"):
                for reach in range(4 if task[1] == 2 else 2):
                    texts.append((task, write_algorithm(task, chance_algorithm(chance, task, side, reach))))
        return texts

    def test_what_was_written_is_read_again(self):
        chance = random.Random(113)
        tasks = chance_tasks(20, [(2, 2), (12, 3), (60, 2), (2, 2, 2), (1, 11, 2)], 50) + [TASK, SMALL, echo(4)]
        for task in tasks:
            for side in ("white", "black"):
                for reach in range(4 if task[1] == 2 else 2):
                    algorithm = chance_algorithm(chance, task, side, reach)
                    before = copy.deepcopy(task)
                    again = read_algorithm(task, write_algorithm(task, algorithm))
                    self.assertEqual(again, algorithm)
                    self.assertEqual(task, before)
                    self.assertIsNone(check_algorithm(task, again))

    def test_what_was_read_is_written_again(self):
        for task, text in self.right_ones():
            self.assertEqual(write_algorithm(task, read_algorithm(text=text, task=task)), text)

    def test_rows_need_not_be_allowed(self):
        self.assertEqual(read_algorithm(TASK, "algorithm white 0\n1,12\n1,12"),
                         ("algorithm", "white", 0, {(0,): (1, 12), (1,): (1, 12)}))

    def test_first_lines(self):
        wrong = ["", " ", "algorithm", "algorithm white", "algorithm 0", "white 0", "algorithm white 4",
                 "algorithm white 10", "algorithm grey 0", "algorithm White 0", "Algorithm white 0", "algorithms white 0",
                 "algorithm  white 0", "algorithm white  0", " algorithm white 0", "algorithm white 0 ",
                 "algorithm,white,0", "algorithm white 0 0", "algorithm white,0", "algorithm 0 white", "white algorithm 0",
                 "algorithm\twhite 0", "algorithm white 0\r", "task 2 2 2 1 1", "0,0"]
        wrong.extend(["algorithm white " + word for word in WRONG_NUMBERS])
        for line in wrong:
            for rest in ("", "\n0,0\n0,0", "\ngrey", "\n"):
                self.assert_place(0, read_algorithm, TASK, line + rest)

    def test_rows(self):
        lines = write_algorithm(TASK, made(TASK, "white", 1, lambda view: (1, 12))).split("\n")
        self.assertEqual(len(lines), 3)
        wrong = ["", " ", "0", "0,0,0", "0,13", "2,0", "0,", ",0", ",", "0,0,", "0 0", "0;0", "0, 0", " 0,0", "0,0 ",
                 "0,0\r", "(0,0)", "algorithm white 1", "0,60", "60,0"]
        wrong.extend(["0," + word for word in WRONG_NUMBERS] + [word + ",0" for word in WRONG_NUMBERS])
        for place in (1, 2):
            for line in wrong:
                ahead = lines[:place] + [line]
                for text in ("\n".join(ahead), "\n".join(ahead + lines[place + 1:]), "\n".join(ahead + ["grey"] * 5)):
                    self.assert_place(place, read_algorithm, TASK, text)

    def test_missing_lines(self):
        for task, text in self.right_ones():
            lines = text.split("\n")
            for many in range(1, len(lines)):
                self.assert_place(many, read_algorithm, task, "\n".join(lines[:many]))

    def test_lines_too_many(self):
        for task, text in self.right_ones():
            many = text.count("\n") + 1
            for line in ("", text.split("\n")[-1], "grey", "\n", "\n\n0,0"):
                self.assert_place(many, read_algorithm, task, text + "\n" + line)

    def test_an_empty_line_and_other_line_ends(self):
        text = "algorithm white 0\n0,0\n0,1"
        self.assert_place(1, read_algorithm, TASK, text.replace("\n", "\n\n"))
        self.assert_place(0, read_algorithm, TASK, "\n" + text)
        for end in ("\r\n", "\r", "\u2028", "\x0b"):
            self.assert_place(0, read_algorithm, TASK, text.replace("\n", end))

    def test_a_text_for_another_task(self):
        text = write_algorithm(TASK, made(TASK, "white", 0, lambda view: (0, 12)))
        self.assert_place(1, read_algorithm, SMALL, text)
        self.assert_place(1, read_algorithm, echo(3), text)
        self.assert_place(3, read_algorithm, ("task", 2, (1, 13), ((),) * 3, ((),)), text)
        self.assert_place(2, read_algorithm, ("task", 2, (1, 13), ((),), ((),)), text)

    def test_one_sign_changed(self):
        chance = random.Random(114)
        places = []
        for task, text in self.right_ones() * 3:
            for _ in range(12):
                at = chance.randrange(min(len(text), 60))
                for wrong in (text[:at] + text[at + 1:], text[:at] + chance.choice("0123 ,\nwa-") + text[at + 1:],
                              text[:at] + chance.choice("0123 ,\nwa-") + text[at:]):
                    place = told_algorithm_place(task, wrong)
                    places.append(place)
                    if place is None:
                        self.assertEqual(write_algorithm(task, read_algorithm(task, wrong)), wrong)
                    else:
                        self.assert_place(place, read_algorithm, task, wrong)
        self.assertGreater(len(set(places)), 8)
        self.assertGreater(places.count(None), 20)

    def test_too_many(self):
        task = ("task", 3, (1, 1, 1), ((),) * 4, ((),) * 3)
        for text in ("algorithm white 2", "algorithm black 3\n0,0,0", "algorithm white 3\ngrey", "algorithm white 2\n\n"):
            with self.assertRaises(errors.TooMany):
                read_algorithm(task, text)
        for text in ("algorithm white 4", "algorithm white 2 ", "algorithm white 02", "algorithms white 2", ""):
            self.assert_place(0, read_algorithm, task, text)
        # There are 4 * 3 ** 3 white views of reach 1.
        self.assert_place(1, read_algorithm, task, "algorithm white 1")
        self.assertEqual(len(read_algorithm(task, "algorithm white 1" + "\n0,0,0" * 108)[3]), 108)
        # 131072 are not too many.
        task = ("task", 4, (1,) * 4, ((),) * 2, ((),) * 2)
        self.assertEqual(len(read_algorithm(task, "algorithm black 2" + "\n0,0,0,0" * 131072)[3]), 131072)
        self.assert_place(131072, read_algorithm, task, "algorithm black 2" + "\n0,0,0,0" * 131071)

    def test_wrong_tasks(self):
        for task in NO_TASKS:
            for text in ("algorithm white 0\n0,0\n0,0", "", "algorithm white 9"):
                with self.assertRaises(errors.BadTask):
                    read_algorithm(task, text)

    def test_the_table_is_the_callers(self):
        text = "algorithm white 0\n0,0\n0,12"
        read_algorithm(TASK, text)[3].clear()
        self.assertEqual(len(read_algorithm(TASK, text)[3]), 2)


class WritePairsTest(TextCase):

    def test_in_full(self):
        self.assertEqual(write_pairs(PAIRS), PAIRS_TEXT)
        self.assertEqual(write_pairs(pairs=PAIRS[:1]), "\n".join(PAIRS_TEXT.split("\n")[:4]))
        self.assertEqual(write_pairs(()), "")

    def test_it_is_made_of_the_texts_of_tasks(self):
        for task in chance_tasks(20, [(2, 2), (12, 3), (2, 2, 2)], 50):
            before = copy.deepcopy(task)
            names = " ".join(["0"] * task[1])
            self.assertEqual(write_pairs(((task, ((0,),) * task[1]),)), write_task(task) + "\neasing " + names)
            self.assertEqual(task, before)


class ReadPairsTest(TextCase):

    def test_in_full(self):
        self.assertEqual(read_pairs(PAIRS_TEXT), PAIRS)
        self.assertEqual(read_pairs(text=PAIRS_TEXT), PAIRS)
        self.assertEqual(read_pairs(""), ())
        for pair in read_pairs(PAIRS_TEXT):
            self.assertEqual([part.__class__ for part in (pair, *pair, *pair[1])], [tuple] * (3 + pair[0][1]))

    def test_what_was_written_is_read_again(self):
        chance = random.Random(115)
        tasks = chance_tasks(20, [(2, 2), (12, 3), (60, 2), (2, 2, 2), (1, 2, 1, 2)], 50)
        for many in range(5):
            for _ in range(10):
                pairs = []
                for _ in range(many):
                    task = chance.choice(tasks)
                    lengths = [chance.choice([1, 2, 3, 59, 60]) for _ in range(task[1])]
                    pairs.append((task, tuple(tuple(chance.randrange(60) for _ in range(length)) for length in lengths)))
                text = write_pairs(tuple(pairs))
                self.assertEqual(read_pairs(text), tuple(pairs))
                self.assertEqual(write_pairs(read_pairs(text)), text)

    def test_papers(self):
        for task, reach in ((relay(2), 3), (unlike(2), 6), (echo(2), 0)):
            paper = slow_paper(task, reach)
            self.assertEqual(read_pairs(write_pairs(paper)), paper)
            self.assertIs(check_slow(task, reach, read_pairs(write_pairs(paper))), True)
        for task, reach in ((relay(1), 2), (turned(relay(2)), 3)):
            paper = quick_paper(task, reach)
            self.assertIs(check_quick(task, reach, read_pairs(write_pairs(paper))), True)
        k, pairs = never_paper(unlike(2), 6)
        self.assertIs(check_never(unlike(2), (k, read_pairs(write_pairs(pairs)))), True)

    def with_line(self, place, line):
        lines = PAIRS_TEXT.split("\n")
        return lines[:place] + [line], lines[place + 1:]

    def assert_wrong_line(self, place, line):
        ahead, rest = self.with_line(place, line)
        for text in ("\n".join(ahead), "\n".join(ahead + rest), "\n".join(ahead + ["grey"] * 20)):
            # The text without any sign is that of no pairs.
            if text != "":
                self.assert_place(place, read_pairs, text)

    def test_easing_lines(self):
        for place, D in ((3, 2), (8, 3), (12, 2)):
            right = ["0"] * D
            wrong = ["", " ", "easing", "easing ", "grey", "Easing 0 0 0"[:7 + 2 * D], "easings" + " 0" * D,
                     "easing" + " 0" * (D - 1), "easing" + " 0" * (D + 1), " easing" + " 0" * D, "easing " + " 0" * D,
                     "easing" + " 0" * D + " ", "easing" + " 0" * D + "\r", "easing\t" + " ".join(right),
                     "0 0", "white", "black", "task 2 2 2 1 1", "easing,0,0"]
            for word in WRONG_NUMBERS + ("60", "61", "100", "0,60", "60,0", "0,", ",0", ",", "0,,0", "0;0", "0,01", "00,1",
                                         ",".join(["0"] * 61), ",".join(["0"] * 60 + [""])):
                for at in range(D):
                    wrong.append(" ".join(["easing"] + right[:at] + [word] + right[at + 1:]))
            for line in wrong:
                self.assert_wrong_line(place, line)
        for word in ("59", ",".join(["59"] * 60), "0", "9,10"):
            ahead, rest = self.with_line(3, "easing 0 " + word)
            names = tuple(int(number) for number in word.split(","))
            self.assertEqual(read_pairs("\n".join(ahead + rest)), ((SMALL, ((0,), names)),) + PAIRS[1:])

    def test_task_lines(self):
        for place in (0, 4, 9):
            for line in ("", " ", "task", "task 2 2 2 1", "task 2 2 2 1 1 ", "task 02 2 2 1 1", "task  2 2 2 1 1",
                         "easing 0 0", "white", "task 2 61 2 1 1", "task 5 1 1 1 1 1 1 1", "task 2 2 2 0 1"):
                self.assert_wrong_line(place, line)
        for place in (1, 10):
            for line in ("", "black", "white 1,0 0,1", "white 0,2", "white 0,1 ", "white  0,1", "easing 0 0", "white 00,1"):
                self.assert_wrong_line(place, line)
        for place in (2, 7, 11):
            for line in ("", "white", "black 0", "easing 0 0", "easing 0 0 0", "black "):
                self.assert_wrong_line(place, line)

    def test_missing_lines(self):
        lines = PAIRS_TEXT.split("\n")
        for many in range(1, len(lines) + 1):
            text = "\n".join(lines[:many])
            if many in (4, 9, 13):
                self.assertEqual(read_pairs(text), PAIRS[:(4, 9, 13).index(many) + 1])
            else:
                self.assert_place(many, read_pairs, text)

    def test_line_feeds(self):
        self.assert_place(0, read_pairs, "\n")
        self.assert_place(0, read_pairs, "\n" + PAIRS_TEXT)
        self.assert_place(13, read_pairs, PAIRS_TEXT + "\n")
        self.assert_place(13, read_pairs, PAIRS_TEXT + "\n\n")
        self.assert_place(1, read_pairs, PAIRS_TEXT.replace("\n", "\n\n"))
        self.assert_place(4, read_pairs, PAIRS_TEXT.replace("\ntask", "\n\ntask", 1))
        for end in ("\r\n", "\r", "\u2028"):
            self.assert_place(0, read_pairs, PAIRS_TEXT.replace("\n", end))
        self.assert_place(0, read_pairs, " ")

    def test_one_sign_changed(self):
        chance = random.Random(116)
        places = []
        texts = [PAIRS_TEXT, write_pairs(slow_paper(relay(2), 1)), write_pairs(PAIRS[:1])]
        for text in texts:
            for _ in range(500):
                at = chance.randrange(len(text))
                sign = chance.choice("0123459 ,\ntaskewh-")
                for wrong in (text[:at] + text[at + 1:], text[:at] + sign + text[at + 1:], text[:at] + sign + text[at:]):
                    place = told_pairs_place(wrong)
                    places.append(place)
                    if place is None:
                        self.assertEqual(write_pairs(read_pairs(wrong)), wrong)
                    else:
                        self.assert_place(place, read_pairs, wrong)
        self.assertGreater(len(set(places)), 12)
        self.assertGreater(places.count(None), 20)

    def test_huge_numbers(self):
        for text in ("task " + "9" * 5000, "task 2 2 2 1 1" + "0" * 5000, "task" + " 1" * 5000):
            self.assert_place(0, read_pairs, text)


if __name__ == "__main__":
    unittest.main()
