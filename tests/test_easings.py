"""check_easing, eased and the papers of looksfar.easings."""

import copy
import itertools
import random
import unittest

from looksfar import errors
from looksfar.algorithms import check_algorithm, flaw_of
from looksfar.deciding import least_reach, nowhere, solved, tidied
from looksfar.easings import check_easing, check_never, check_slow, eased, never_paper, slow_paper
from looksfar.steps import less
from looksfar.tasks import turned
from tests.changing import HUGE, changed_values, with_part
from tests.examples import chance_algorithm, chance_tasks, echo, echo_row, every_row, made, relay, unlike
from tests.told import (
    all_flaws, told_easing, told_never, told_never_paper, told_nowhere, told_plain_pairs, told_slow)

TASK = ("task", 2, (2, 3), (((0, 1), (1, 0)), ((0, 2),)), (((0, 0), (0, 2), (1, 1)),))
NO_TASKS = (None, (), 5, list(TASK), TASK[:4], with_part(TASK, (1,), True), with_part(TASK, (3, 0), [(0, 1)]))
NO_ALGORITHMS = (None, (), 0, "algorithm", [], {}, ("algorithm", "white", 1, {}), ("algorithm", "grey", 1, {}))
OTHER_VALUES = (None, True, False, 0, 1, -1, HUGE, "", "paper", [], {}, (None,), ((),), [()], {0: 0}, ("task",))
NO_REACHES = (-1, 7, HUGE, -HUGE, True, False, None, "1", "", (1,), [1], {})

# With the easing ((1, 0), (2, 0, 2)) from TASK to it.
EASY = ("task", 2, (2, 3), (((0, 2), (1, 0)), ((1, 2),)), (((0, 0), (1, 2)),))
EASING = ((1, 0), (2, 0, 2))

# Tasks for which least_reach(task, 6) is never, by its two numbers.
NEVER = {
    (0, 0): ("task", 2, (2, 2), (((0, 0),), ()), (((0, 0),),)),
    (0, 1): unlike(2),
    (0, 2): ("task", 2, (2, 3), (((1, 0),), ((0, 1),)), (((0, 0), (1, 1)),)),
    (1, 2): ("task", 2, (2, 2), (((0, 0), (1, 0)), ((1, 0),)), (((1, 0),), ((0, 0),))),
    (1, 3): ("task", 2, (2, 2), (((0, 0), (1, 1)),), (((1, 0), (1, 1)), ((0, 1),))),
    (2, 3): ("task", 2, (2, 2), (((1, 0), (1, 1)), ((0, 0),)), (((1, 0), (1, 1)), ((0, 0),))),
    (4, 6): ("task", 2, (3, 4), (((0, 0), (0, 3), (1, 0), (2, 2), (2, 3)),), (((0, 3), (1, 1), (2, 0)), ((0, 2),))),
}


def task_with(labels, white, black):
    return ("task", len(labels), labels, white, black)


def plain(task):
    """The easing that leaves all labels of the task as they are."""
    return tuple(tuple(range(many)) for many in task[2])


class CheckEasingTest(unittest.TestCase):

    def assert_easing(self, first, second, easing, answer):
        before = copy.deepcopy((first, second, easing))
        self.assertIs(check_easing(first, second, easing), answer)
        self.assertTrue((first, second, easing) == before)

    def test_right_ones(self):
        self.assert_easing(TASK, EASY, EASING, True)
        self.assertIs(check_easing(easing=EASING, second=EASY, first=TASK), True)
        for task in (TASK, echo(2), echo(3), echo(4), relay(5), unlike(3)):
            self.assert_easing(task, task, plain(task), True)
        # All rows of the second may be allowed, and all labels become one.
        every = task_with((3, 1), (every_row((3, 1)),) * 2, (every_row((3, 1)),))
        self.assert_easing(TASK, every, ((2, 2), (0, 0, 0)), True)
        self.assert_easing(TASK, every, ((2, 0), (0, 0, 0)), True)
        # Of a task without rows to any one.
        bare = task_with((2, 3), ((), ()), ((),))
        for easing in itertools.product([(0, 0), (1, 0)], [(0, 1, 2), (2, 2, 0)]):
            self.assert_easing(bare, TASK, easing, True)

    def test_rows_that_are_not_allowed(self):
        self.assert_easing(TASK, TASK, ((1, 0), (0, 1, 2)), False)
        self.assert_easing(EASY, TASK, EASING, False)
        for place, number in ((3, 0), (3, 1), (4, 0)):
            for at in range(len(EASY[place][number])):
                rows = EASY[place][number]
                fewer = with_part(EASY, (place, number), rows[:at] + rows[at + 1:])
                self.assert_easing(TASK, fewer, EASING, False)
        # The rows are allowed, but at other inputs, or at the other side.
        task = task_with((2, 2), (((0, 0),), ((1, 1),)), (((0, 0),), ((1, 1),)))
        self.assert_easing(task, task, ((1, 0), (1, 0)), False)
        self.assert_easing(task_with((2, 2), (((0, 0),),), (((1, 1),),)), task_with((2, 2), (((1, 1),),), (((0, 0),),)),
                           ((0, 1), (0, 1)), False)

    def test_wrong_values(self):
        wrong = [
            [(1, 0), (2, 0, 2)], ([1, 0], (2, 0, 2)), ((1, 0), [2, 0, 2]), ((1, 0),), ((1, 0), (2, 0, 2), ()), (),
            ((1, 0), (2, 0, 2), (0,)), ((1,), (2, 0, 2)), ((1, 0), (2, 0)), ((1, 0, 0), (2, 0, 2)),
            ((1, 0), (2, 0, 2, 0)),
            ((2, 0), (2, 0, 2)), ((1, 0), (3, 0, 2)), ((1, -1), (2, 0, 2)), ((True, 0), (2, 0, 2)),
            ((1, False), (2, 0, 2)), ((1, 0), (2, False, 2)), ((1, None), (2, 0, 2)), ((1, "0"), (2, 0, 2)),
            ((1, (0,)), (2, 0, 2)), ((1, HUGE), (2, 0, 2)), ((2, 0, 2), (1, 0)), ((1, 0), None), (1, 0), "10",
            {0: (1, 0), 1: (2, 0, 2)}, ((1, 0), {0: 2, 1: 0, 2: 2})]
        for easing in wrong + list(OTHER_VALUES):
            self.assert_easing(TASK, EASY, easing, False)

    def test_labels_that_stand_in_no_row_count(self):
        first = task_with((3, 1), (((0, 0),),), (((0, 0),),))
        second = task_with((2, 1), (((1, 0),),), (((1, 0),),))
        for easing in itertools.product(itertools.product((0, 1, 2), repeat=3), [(0,)]):
            self.assert_easing(first, second, easing, easing[0][0] == 1 and 2 not in easing[0])
        self.assert_easing(first, second, ((1, 0), (0,)), False)
        for label in (True, -1, 2, HUGE, None, "0"):
            self.assert_easing(first, second, ((1, 0, label), (0,)), False)

    def test_other_numbers(self):
        def bare(D, p, q):
            return task_with((1,) * D, ((),) * p, ((),) * q)
        for first, second in itertools.product(itertools.product((2, 3), (1, 2), (1, 2)), repeat=2):
            for D in (2, 3):
                self.assert_easing(bare(*first), bare(*second), ((0,),) * D, first == second and first[0] == D)

    def test_against_the_words_of_the_document(self):
        chance = random.Random(15)
        tasks = chance_tasks(40, [(2, 2), (2, 3), (3, 2)], 60)
        answers = []
        for first, second in itertools.product(tasks[:20], tasks):
            for _ in range(3):
                easing = tuple(tuple(chance.randrange(more) for _ in range(many))
                               for many, more in zip(first[2], second[2]))
                answers.append(told_easing(first, second, easing))
                self.assert_easing(first, second, easing, answers[-1])
        self.assertGreater(answers.count(True), 20)
        self.assertGreater(answers.count(False), 20)

    def test_wrong_tasks(self):
        for wrong in NO_TASKS:
            for pair in ((wrong, EASY), (TASK, wrong), (wrong, wrong)):
                for easing in (EASING, None):
                    with self.assertRaises(errors.BadTask):
                        check_easing(*pair, easing)


class EasedTest(unittest.TestCase):

    def test_both_sides(self):
        chance = random.Random(16)
        for side in ("white", "black"):
            for reach in range(4):
                algorithm = chance_algorithm(chance, TASK, side, reach)
                before = copy.deepcopy(algorithm)
                answer = eased(TASK, EASY, EASING, algorithm)
                self.assertEqual(algorithm, before)
                self.assertEqual(answer[:3], algorithm[:3])
                self.assertEqual(answer[3], {view: (EASING[0][row[0]], EASING[1][row[1]])
                                             for view, row in algorithm[3].items()})
                self.assertIsNone(check_algorithm(EASY, answer))

    def test_what_solves_the_first_solves_the_second(self):
        names = ((1, 0),) * 2
        other = ("task", 2, (2, 2), (every_row((2, 2)),), (((1, 1),), ((0, 0),)))
        algorithm = made(echo(2), "white", 1, echo_row)
        answer = eased(algorithm=algorithm, easing=names, second=other, first=echo(2))
        self.assertEqual(answer, made(other, "white", 1, lambda view: tuple(1 - label for label in echo_row(view))))
        self.assertIsNone(flaw_of(other, answer))
        sighted = made(echo(2), "black", 0, lambda view: view * 2)
        self.assertIsNone(flaw_of(other, eased(echo(2), other, names, sighted)))

    def test_wrong_easings(self):
        algorithm = made(TASK, "white", 0, lambda view: (0, 1))
        for easing in (None, (), [(1, 0), (2, 0, 2)], ((1, 0), (2, 0)), ((1, 0), (2, 0, 3)), ((1, False), (2, 0, 2)),
                       ((0, 1), (0, 1, 2)), ((1, 0), (2, 0, 2), (0,)), 5, "", {}):
            with self.assertRaises(errors.BadEasing):
                eased(TASK, EASY, easing, algorithm)
        for second in (echo(2), echo(3), EASY[:4] + (EASY[4] * 2,), EASY[:3] + (EASY[3][:1], EASY[4])):
            with self.assertRaises(errors.BadEasing):
                eased(TASK, second, EASING, algorithm)

    def test_the_order_of_the_errors(self):
        algorithm = made(TASK, "white", 1, lambda view: (0, 1))
        for easing in (EASING, None):
            for wrong in NO_TASKS:
                for given in NO_ALGORITHMS + (algorithm,):
                    for pair in ((wrong, EASY), (TASK, wrong)):
                        with self.assertRaises(errors.BadTask):
                            eased(*pair, easing, given)
            for given in NO_ALGORITHMS + (made(TASK, "white", 1, lambda view: (0, 3)), ):
                with self.assertRaises(errors.BadAlgorithm):
                    eased(TASK, EASY, easing, given)
                # The algorithm is one for the first task, also where it would be one for the second.
                with self.assertRaises(errors.BadAlgorithm):
                    eased(TASK, echo(3), easing, made(echo(3), "white", 1, echo_row))

    def test_changed_tables_change_no_later_answer(self):
        algorithm = made(echo(2), "white", 1, echo_row)
        first = eased(echo(2), echo(2), plain(echo(2)), algorithm)
        algorithm[3].clear()
        self.assertEqual(first, made(echo(2), "white", 1, echo_row))
        eased(echo(2), echo(2), plain(echo(2)), first)[3].clear()
        self.assertEqual(first, made(echo(2), "white", 1, echo_row))


class SlowTest(unittest.TestCase):

    def assert_slow(self, task, reach, paper, answer):
        before = copy.deepcopy((task, paper))
        self.assertIs(check_slow(task, reach, paper), answer)
        self.assertTrue((task, paper) == before)

    def papers(self):
        """Right papers, with their tasks and reaches."""
        found = [(relay(1), reach) for reach in (0, 1)] + [(relay(2), reach) for reach in range(4)]
        found.extend([(turned(relay(2)), reach) for reach in range(3)])
        found.extend([(echo(D), 0) for D in (2, 3, 4)] + [(unlike(2), reach) for reach in range(7)])
        found.extend([(unlike(5), 0), (unlike(5), 1), (NEVER[1, 3], 6), (NEVER[4, 6], 6), (relay(5), 0)])
        return [(task, reach, slow_paper(task, reach)) for task, reach in found]

    def test_the_papers_that_are_made(self):
        for task, reach, paper in self.papers():
            self.assertEqual(paper, told_plain_pairs(task, reach))
            self.assert_slow(task, reach, paper, True)
            self.assertIs(check_slow(paper=paper, reach=reach, task=task), True)
            self.assertEqual(slow_paper(reach=reach, task=task), paper)

    def test_where_there_is_an_algorithm(self):
        for task, least in ((relay(1), 2), (turned(relay(1)), 1), (relay(2), 4), (turned(relay(2)), 3), (echo(3), 1)):
            for reach in range(7):
                paper = slow_paper(task, reach)
                if reach < least:
                    self.assertEqual(len(paper), reach)
                else:
                    self.assertIsNone(paper)
                    # The pairs are right, but the last task has an algorithm of reach 0.
                    pairs = told_plain_pairs(task, reach)
                    self.assert_slow(task, reach, pairs, False)
        self.assertIsNone(slow_paper(("task", 2, (1, 1), (((0, 0),),), (((0, 0),),)), 0))

    def test_where_less_raises(self):
        for reach in range(1, 7):
            self.assertIsNone(slow_paper(relay(3), reach))
            self.assertIsNone(slow_paper(unlike(6), reach))
            self.assertIsNone(slow_paper(task_with((2, 2), (((0, 0),),), ((), ())), reach))
            self.assertEqual(slow_paper(unlike(5), reach) is None, reach > 1)
        self.assertEqual(slow_paper(relay(3), 0), ())
        # Pairs with any task there make no paper.
        bare = task_with((1, 1), ((),), ((),))
        for task in (relay(3), unlike(6), task_with((2, 2), (((0, 0),),), ((),))):
            for last in (bare, relay(3), less(unlike(2)), task_with((1, 1), ((),), ((), ()))):
                self.assert_slow(task, 1, ((last, plain(last)),), False)

    def test_tidied_ahead_of_the_step(self):
        # With 16 labels the step could not be taken from the task as it is.
        small = unlike(2)
        task = task_with((8, 8), tuple(rows + ((7, 2),) for rows in small[3]), small[4])
        paper = slow_paper(task, 2)
        self.assertEqual(paper, slow_paper(small, 2))
        self.assert_slow(task, 2, paper, True)
        for task in chance_tasks(60, [(3, 3), (3, 4)], 30):
            if tidied(task)[0] != task and any(tidied(task)[0][4]) and told_nowhere(less(tidied(task)[0])) is None:
                self.assertEqual(slow_paper(task, 1), told_plain_pairs(task, 1))

    def test_against_the_words_of_the_document(self):
        made_ones = 0
        for task in chance_tasks(80, [(2, 2), (3, 2), (2, 3), (2, 2, 2)], 50):
            for reach in range(3):
                pairs = told_plain_pairs(task, reach)
                right = pairs is not None and told_slow(task, reach, pairs)
                self.assertEqual(slow_paper(task, reach), pairs if right else None)
                if pairs is not None:
                    self.assert_slow(task, reach, pairs, right)
                made_ones += right
        self.assertGreater(made_ones, 20)

    def test_papers_for_another_reach(self):
        for task, reach, paper in self.papers():
            for another in range(7):
                if another != reach:
                    self.assert_slow(task, another, paper, False)

    def test_papers_for_another_task(self):
        papers = [each for each in self.papers() if each[1] > 0]
        for _, reach, paper in papers:
            for another, _, _ in papers:
                if told_plain_pairs(another, 1) is not None:
                    self.assert_slow(another, reach, paper, told_slow(another, reach, paper))
        self.assert_slow(echo(2), 1, slow_paper(relay(1), 1), False)

    def test_one_place_changed(self):
        right = 0
        for task, reach in ((relay(1), 1), (unlike(2), 2), (turned(relay(2)), 1)):
            paper = slow_paper(task, reach)
            for wrong in changed_values(paper, (paper[0], paper[0][0], paper[0][1], ((0, 0),), echo(2))):
                answer = told_slow(task, reach, wrong)
                right += answer
                self.assert_slow(task, reach, wrong, answer)
        # A label may have another name, rows may be added, and the paper is right all the same.
        self.assertGreater(right, 0)

    def test_other_easings_that_are_right(self):
        task = unlike(2)
        lesser = less(task)
        wider = task_with((3, 3), tuple(rows + ((2, 2),) for rows in lesser[3]), lesser[4])
        self.assert_slow(task, 1, ((wider, plain(lesser)),), True)
        self.assert_slow(task, 1, ((lesser, ((1, 0), (1, 0))),), True)
        self.assert_slow(task, 1, ((lesser, ((1, 0), (0, 1))),), False)

    def test_a_last_task_that_has_an_algorithm_of_reach_0(self):
        task = unlike(2)
        every = task_with((2, 2), (every_row((2, 2)),), (every_row((2, 2)),))
        self.assertIsNotNone(nowhere(every))
        self.assertIs(check_easing(less(task), every, plain(every)), True)
        self.assert_slow(task, 1, ((every, plain(every)),), False)
        self.assert_slow(every, 0, (), False)

    def test_other_values(self):
        for reach in (0, 1, 2):
            for value in OTHER_VALUES + ((5,), ((), ()), ((5, 5),), ((unlike(2), None),), [], ((unlike(2),),), "ab"):
                self.assert_slow(unlike(2), reach, value, False)
        paper = slow_paper(unlike(2), 2)
        for wrong in (list(paper), paper[:1], paper[1:], paper + paper[:1], paper[:1] + (list(paper[1]),),
                      (paper[0] + (None,), paper[1]), (paper[0][:1], paper[1]), {0: paper[0], 1: paper[1]}):
            self.assert_slow(unlike(2), 2, wrong, False)
        self.assert_slow(unlike(2), 0, (), True)

    def test_wrong_tasks(self):
        for task in NO_TASKS:
            for reach in (0, 1, 7, None):
                with self.assertRaises(errors.BadTask):
                    check_slow(task, reach, ())
                with self.assertRaises(errors.BadTask):
                    slow_paper(task, reach)

    def test_wrong_reaches(self):
        for reach in NO_REACHES:
            for task in (unlike(2), relay(3), echo(2)):
                for paper in ((), None, slow_paper(unlike(2), 1)):
                    with self.assertRaises(errors.BadReach):
                        check_slow(task, reach, paper)
                with self.assertRaises(errors.BadReach):
                    slow_paper(task, reach)


class NeverTest(unittest.TestCase):

    def assert_never(self, task, paper, answer):
        before = copy.deepcopy((task, paper))
        self.assertIs(check_never(task, paper), answer)
        self.assertTrue((task, paper) == before)

    def test_the_papers_that_are_made(self):
        for (j, i), task in NEVER.items():
            self.assertEqual(least_reach(task, 6), ("never", j, i))
            paper = never_paper(task, 6)
            self.assertEqual(paper, told_never_paper(task, 6))
            self.assert_never(task, paper, True)
            if j == i:
                self.assertEqual(paper, (-1, told_plain_pairs(task, i)))
            else:
                self.assertEqual(paper[0], j + 1)
                self.assertEqual(len(paper[1]), i + 1)
                self.assertEqual(paper[1][:i], told_plain_pairs(task, i))
                self.assertEqual(paper[1][-1][0], paper[1][j][0])
            for most in range(7):
                self.assertEqual(never_paper(task, most), paper if most >= i else None)
            self.assertEqual(never_paper(most=6, task=task), paper)
            self.assertIs(check_never(paper=paper, task=task), True)

    def test_a_small_one_in_full(self):
        lesser = less(unlike(2))
        self.assertEqual(lesser, task_with((2, 2), (((0, 1), (1, 0)),), (((0, 0), (1, 1)),)))
        # The least exchange of names from lesser to unlike(2) changes those of colour 2.
        self.assertEqual(never_paper(unlike(2), 1), (1, ((lesser, ((0, 1), (0, 1))), (lesser, ((0, 1), (1, 0))))))

    def test_the_closing_easing_goes_by_sets_of_names(self):
        # Here a set has two labels, so that the names of its labels have to be put in order.
        found = 0
        for task in chance_tasks(300, [(2, 2), (3, 2), (3, 3)], 45):
            paper = never_paper(task, 3)
            if paper is not None and paper[0] > 0:
                self.assertEqual(paper, told_never_paper(task, 3))
                self.assert_never(task, paper, True)
                found += 1
        self.assertGreater(found, 10)

    def test_none(self):
        for task in (echo(2), relay(1), relay(2), relay(3), unlike(3), unlike(5), turned(relay(2))):
            for most in range(7):
                self.assertIsNone(never_paper(task, most))

    def test_one_place_changed(self):
        right = 0
        for numbers in ((0, 1), (0, 2), (1, 2)):
            task = NEVER[numbers]
            paper = never_paper(task, 6)
            for wrong in changed_values(paper, (paper[1][0], paper[1][0][0], paper[1][0][1], ((0, 0),), echo(2))):
                answer = told_never(task, wrong)
                right += answer
                self.assert_never(task, wrong, answer)
        self.assertGreater(right, 0)

    def test_the_number_k(self):
        for numbers in ((0, 1), (0, 2), (1, 3), (4, 6)):
            k, pairs = never_paper(NEVER[numbers], 6)
            for value in (-2, -1, 0, 1, 2, 3, 4, 5, 6, 7, 8, HUGE, -HUGE, True, False, None, str(k), (k,), [k]):
                self.assert_never(NEVER[numbers], (value, pairs), value == k and value is not True)
            for part in range(len(pairs)):
                self.assert_never(NEVER[numbers], (k, pairs[:part]), False)

    def test_true_is_no_number(self):
        k, pairs = never_paper(unlike(2), 6)
        self.assertEqual(k, 1)
        self.assert_never(unlike(2), (True, pairs), False)

    def test_k_0(self):
        # less(unlike(2)) twice is unlike(2) with other names, so that the given task itself comes round.
        task = unlike(2)
        pairs = never_paper(task, 6)[1]
        names = [easing for easing in itertools.product(itertools.permutations((0, 1)), repeat=2)
                 if check_easing(less(pairs[0][0]), task, easing)]
        for easing in names:
            self.assert_never(task, (0, pairs[:1] + ((task, easing),)), True)
            self.assert_never(task, (1, pairs[:1] + ((task, easing),)), False)
            self.assert_never(task, (False, pairs[:1] + ((task, easing),)), False)
        self.assertEqual(len(names), 2)

    def test_more_rounds_than_one(self):
        task = unlike(2)
        pairs = never_paper(task, 6)[1]
        # The task number 2 is number 1, so the last pair may be taken again.
        self.assert_never(task, (1, pairs + pairs[1:]), True)
        self.assert_never(task, (2, pairs + pairs[1:]), True)
        self.assert_never(task, (1, pairs + pairs[1:] * 6), True)
        self.assert_never(task, (3, pairs + pairs[1:]), False)

    def test_k_minus_1(self):
        without = NEVER[0, 0]
        self.assertEqual(never_paper(without, 0), (-1, ()))
        self.assert_never(without, (-1, ()), True)
        pairs = told_plain_pairs(without, 3)
        for many in range(4):
            self.assert_never(without, (-1, pairs[:many]), told_never(without, (-1, pairs[:many])))
        self.assert_never(without, (-1, pairs[:1]), True)
        # Only the last task counts, which may have rows at each input though the given one has not.
        last = task_with((2, 2), (((0, 0), (1, 1)),), (((0, 0),), ((1, 1),)))
        self.assertIs(check_easing(less(tidied(without)[0]), last, ((0,), (0,))), True)
        self.assertIsNone(nowhere(last))
        self.assert_never(without, (-1, ((last, ((0,), (0,))),)), False)
        # No input without rows.
        self.assert_never(unlike(2), (-1, ()), False)
        self.assert_never(unlike(2), (-1, told_plain_pairs(unlike(2), 2)), False)
        # Each input has rows, but tidied one has none.
        cut = task_with((3, 2), (((0, 0),), ((1, 1),)), (((0, 0), (2, 1)),))
        self.assert_never(cut, (-1, ()), True)

    def test_tasks_that_have_an_algorithm_of_reach_0(self):
        task = unlike(2)
        every = task_with((2, 2), (every_row((2, 2)),), (every_row((2, 2)),))
        lone = less(every)
        self.assertEqual(less(lone), lone)
        pairs = ((every, plain(every)), (lone, plain(lone)), (lone, plain(lone)))
        # It comes round, but over tasks that can be solved.
        for start in range(3):
            given = (task, every, lone)[start]
            for k in range(-1, 3):
                self.assert_never(given, (k, pairs[start:]), False)
        self.assertIs(check_easing(less(task), every, plain(every)), True)
        self.assert_never(every, (0, ((every, ((0,), (0,))),)), False)
        self.assertIs(check_easing(less(every), every, ((0,), (0,))), True)

    def test_where_less_raises(self):
        bare = task_with((1, 1), ((),), ((),))
        for task in (relay(3), unlike(6), task_with((2, 2), (((0, 0),),), ((),))):
            for k in (-1, 0):
                for last in (task, bare):
                    self.assert_never(task, (k, ((last, plain(last)),)), False)
        # Without pairs no step is taken away.
        self.assert_never(task_with((2, 2), (((0, 0),),), ((),)), (-1, ()), True)
        self.assert_never(task_with((60, 60), (((0, 0),),), ((),)), (-1, ()), True)
        self.assert_never(relay(3), (-1, ()), False)

    def test_against_the_words_of_the_document(self):
        counts = {True: 0, False: 0}
        for task in chance_tasks(60, [(2, 2), (3, 2), (2, 3)], 40):
            paper = told_never_paper(task, 2)
            self.assertEqual(never_paper(task, 2), paper)
            for many in range(3):
                pairs = told_plain_pairs(task, many)
                if pairs is not None:
                    for k in range(-1, many + 1):
                        answer = told_never(task, (k, pairs))
                        self.assert_never(task, (k, pairs), answer)
                        counts[answer] += 1
        self.assertTrue(all(many > 10 for many in counts.values()), counts)

    def test_other_values(self):
        paper = never_paper(unlike(2), 6)
        more = (list(paper), paper[:1], paper[1:], paper + (None,), (paper[0], list(paper[1])), (paper[0], None),
                paper[::-1], {0: paper[0], 1: paper[1]}, (1, 5), (1, "ab"), (1, {}), (-1, []), (-1, None), (-1, {}),
                (1, ((), ())), (0, (5,)), (0, ((5, 5),)), (0, ((unlike(2), None),)), (0, ((unlike(2),),)), "ab", ())
        for task in (unlike(2), NEVER[0, 0]):
            for value in OTHER_VALUES + more:
                self.assert_never(task, value, False)

    def test_wrong_tasks(self):
        for task in NO_TASKS:
            for paper in ((-1, ()), None):
                with self.assertRaises(errors.BadTask):
                    check_never(task, paper)
            for most in (6, 7, None):
                with self.assertRaises(errors.BadTask):
                    never_paper(task, most)

    def test_wrong_numbers_of_steps(self):
        for most in NO_REACHES:
            for task in (unlike(2), echo(2), NEVER[0, 0]):
                with self.assertRaises(errors.BadReach):
                    never_paper(task, most)


class PapersAndAlgorithmsTest(unittest.TestCase):

    def test_no_algorithm_where_there_is_a_paper(self):
        for task in chance_tasks(60, [(2, 2), (3, 2), (2, 3)], 55):
            never = never_paper(task, 6)
            for reach in range(3):
                if slow_paper(task, reach) is not None or never is not None:
                    self.assertIsNone(solved(task, reach))
        self.assertNotEqual(all_flaws(unlike(2), made(unlike(2), "white", 1, lambda view: (0, 0))), [])


if __name__ == "__main__":
    unittest.main()
