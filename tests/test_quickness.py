"""check_quick, quick_algorithm and quick_paper of looksfar.quickness."""

import copy
import itertools
import unittest

from looksfar import errors
from looksfar.algorithms import check_algorithm, flaw_of
from looksfar.deciding import nowhere, solved, tidied
from looksfar.easings import check_easing, slow_paper
from looksfar.quickness import check_quick, quick_algorithm, quick_paper
from looksfar.steps import less
from looksfar.tasks import turned
from tests.changing import HUGE, changed_values, with_part
from tests.examples import chance_tasks, echo, echo_row, every_row, made, relay, relay_row, turned_relay_row, unlike
from tests.told import told_nowhere, told_plain_pairs, told_quick, told_quick_table

TASK = ("task", 2, (2, 3), (((0, 1), (1, 0)), ((0, 2),)), (((0, 0), (0, 2), (1, 1)),))
NO_TASKS = (None, (), 5, list(TASK), TASK[:4], with_part(TASK, (1,), True), with_part(TASK, (3, 0), [(0, 1)]))
NO_REACHES = (-1, 4, HUGE, -HUGE, True, False, None, "1", "", (1,), [1], {})
OTHER_VALUES = (None, True, False, 0, 1, -1, HUGE, "", "paper", "ab", [], {}, (None,), ((),), [()], {0: 0}, ("task",),
                (5,), ((), ()), ((5, 5),), ((unlike(2), None),), ((unlike(2),),), ((None, ((0,), (0,))),))

# A task, solved by the labels 0 and 2 alone, that has other labels besides, with rows at white nodes alone.
SPARE = ("task", 2, (4, 3), (((0, 0), (0, 2), (1, 1), (2, 0), (2, 2), (3, 2)),), (((0, 0),), ((2, 2),)))


def task_with(labels, white, black):
    return ("task", len(labels), labels, white, black)


def plain(task):
    """The easing that leaves all labels of the task as they are."""
    return tuple(tuple(range(many)) for many in task[2])


def all_rows(D, p, q):
    """The task in which each edge has but one label, and all is allowed."""
    return task_with((1,) * D, (((0,) * D,),) * p, (((0,) * D,),) * q)


def narrowed(task):
    """The part of a task that its algorithm of reach 0 makes use of, and its easing to the task."""
    rows = list(nowhere(task)[3].values())
    word, D, _, _, black = task
    kept = [sorted({row[at] for row in rows}) for at in range(D)]

    def numbered(allowed):
        return tuple(tuple(labels.index(label) for labels, label in zip(kept, row)) for row in allowed
                     if all(label in labels for labels, label in zip(kept, row)))
    narrow = (word, D, tuple(len(labels) for labels in kept), tuple(numbered([row]) for row in rows),
              tuple(numbered(allowed) for allowed in black))
    return narrow, tuple(tuple(labels) for labels in kept)


def papers():
    """Right papers that the program makes, with their tasks and reaches."""
    found = [(relay(1), 2), (turned(relay(1)), 1), (turned(relay(1)), 2), (turned(relay(2)), 3), (SPARE, 1), (SPARE, 2)]
    found.extend([(echo(D), 1) for D in (2, 3, 4)] + [(echo(2), 2), (echo(2), 3), (all_rows(2, 2, 2), 0)])
    return [(task, reach, quick_paper(task, reach)) for task, reach in found]


def other_papers():
    """Right papers whose tasks are others, with their tasks and reaches."""
    found = []
    for task, reach, paper in papers():
        if reach > 0:
            found.append((task, reach, paper[:-1] + (narrowed_pair(paper[-1][0], paper[-1][1]),)))
    # The labels of a pair's task may have other names.
    lesser = less(echo(2))
    swapped = with_part(lesser, (4,), tuple(tuple(sorted(row[::-1] for row in rows)) for rows in lesser[4]))
    for easing in itertools.product(itertools.permutations((0, 1)), repeat=2):
        if check_easing(swapped, lesser, easing):
            found.append((echo(2), 1, ((swapped, easing),)))
    return found


def narrowed_pair(task, easing):
    narrow, names = narrowed(task)
    return (narrow, tuple(tuple(own[label] for label in labels) for own, labels in zip(easing, names)))


class QuickCase(unittest.TestCase):

    def assert_quick(self, task, reach, paper, answer):
        before = copy.deepcopy((task, paper))
        self.assertIs(check_quick(task, reach, paper), answer)
        self.assertTrue((task, paper) == before)

    def assert_bad(self, task, paper):
        before = copy.deepcopy((task, paper))
        with self.assertRaises(errors.BadEasing):
            quick_algorithm(task, paper)
        self.assertTrue((task, paper) == before)


class CheckQuickTest(QuickCase):

    def test_the_papers_that_are_made(self):
        for task, reach, paper in papers():
            self.assertEqual(paper, told_plain_pairs(task, reach))
            self.assert_quick(task, reach, paper, True)
            self.assertIs(check_quick(paper=paper, reach=reach, task=task), True)

    def test_papers_of_other_easings(self):
        others = other_papers()
        self.assertGreater(len(others), 9)
        for task, reach, paper in others:
            self.assertIs(told_quick(task, reach, paper), True)
            self.assert_quick(task, reach, paper, True)

    def test_easings_that_lead_the_other_way(self):
        # From the step to a wider task there is an easing, as in papers of slowness; back there is none.
        task = unlike(2)
        every = task_with((2, 2), (every_row((2, 2)),), (every_row((2, 2)),))
        self.assertIs(check_easing(less(task), every, plain(every)), True)
        self.assert_quick(task, 1, ((every, plain(every)),), False)
        self.assert_quick(task, 1, slow_paper(task, 1), False)

    def test_one_place_changed(self):
        right = 0
        chosen = [task for task in chance_tasks(100, [(2, 2), (3, 2)], 70)
                  if nowhere(task) is None and quick_paper(task, 1) is not None]
        for task, reach in ((relay(1), 2), (SPARE, 1), (echo(2), 2), (chosen[0], 1), (chosen[1], 1)):
            paper = quick_paper(task, reach)
            for wrong in changed_values(paper, (paper[0], paper[0][0], paper[0][1], ((0, 0),), echo(2))):
                answer = told_quick(task, reach, wrong)
                right += answer
                self.assert_quick(task, reach, wrong, answer)
                # With a pair more or less it may be a paper for another reach.
                if not isinstance(wrong, tuple) or not told_quick(task, len(wrong), wrong):
                    self.assert_bad(task, wrong)
        # A row may be left out, for instance, and the paper is right all the same.
        self.assertGreater(right, 0)

    def test_papers_for_another_reach(self):
        for task, reach, paper in papers():
            for another in range(4):
                self.assert_quick(task, another, paper, another == reach)

    def test_papers_for_another_task(self):
        for task, reach, paper in papers():
            for another, _, _ in papers():
                if told_plain_pairs(another, 1) is not None:
                    self.assert_quick(another, reach, paper, told_quick(another, reach, paper))
        self.assert_quick(relay(1), 1, quick_paper(echo(2), 1), False)
        self.assert_quick(echo(3), 1, quick_paper(echo(2), 1), False)

    def test_reach_0(self):
        for task in chance_tasks(40, [(2, 2), (3, 2), (2, 2, 2)], 60) + [echo(2), all_rows(4, 4, 4)]:
            self.assert_quick(task, 0, (), told_nowhere(task) is not None)

    def test_against_the_words_of_the_document(self):
        counts = {True: 0, False: 0}
        for task in chance_tasks(80, [(2, 2), (3, 2), (2, 3), (2, 2, 2)], 60):
            for reach in range(3):
                pairs = told_plain_pairs(task, reach)
                if pairs is not None:
                    answer = told_quick(task, reach, pairs)
                    counts[answer] += 1
                    self.assert_quick(task, reach, pairs, answer)
        self.assertTrue(all(many > 20 for many in counts.values()), counts)

    def test_where_less_raises(self):
        bare = task_with((1, 1), ((),), ((),))
        for task in (relay(3), unlike(6), task_with((2, 2), (((0, 0),),), ((),))):
            for last in (bare, all_rows(2, 1, 1), relay(3), task):
                for reach in (1, 2, 3):
                    self.assert_quick(task, reach, ((last, plain(last)),) * reach, False)
                    self.assert_bad(task, ((last, plain(last)),) * reach)

    def test_other_values(self):
        for task in (echo(2), all_rows(2, 1, 1)):
            for reach in range(4):
                for value in OTHER_VALUES:
                    self.assert_quick(task, reach, value, False)
        paper = quick_paper(relay(1), 2)
        for wrong in (list(paper), paper[:1], paper[1:], paper + paper[:1], paper[:1] + (list(paper[1]),),
                      (paper[0] + (None,), paper[1]), (paper[0][:1], paper[1]), {0: paper[0], 1: paper[1]}):
            self.assert_quick(relay(1), 2, wrong, False)

    def test_wrong_tasks(self):
        for task in NO_TASKS:
            for reach in (0, 1, 4, None):
                with self.assertRaises(errors.BadTask):
                    check_quick(task, reach, ())
                with self.assertRaises(errors.BadTask):
                    quick_paper(task, reach)

    def test_wrong_reaches(self):
        for reach in NO_REACHES:
            for task in (unlike(2), relay(3), echo(2), all_rows(2, 1, 1)):
                for paper in ((), None, quick_paper(echo(2), 1)):
                    with self.assertRaises(errors.BadReach):
                        check_quick(task, reach, paper)
                with self.assertRaises(errors.BadReach):
                    quick_paper(task, reach)


class QuickAlgorithmTest(QuickCase):

    def assert_made(self, task, paper):
        before = copy.deepcopy((task, paper))
        algorithm = quick_algorithm(task, paper)
        self.assertEqual((task, paper), before)
        self.assertEqual(algorithm, ("algorithm", "white", len(paper), told_quick_table(task, paper)))
        self.assertIsNone(check_algorithm(task, algorithm))
        self.assertIsNone(flaw_of(task, algorithm))
        return algorithm

    def test_relays_and_echoes(self):
        self.assertEqual(quick_algorithm(relay(1), quick_paper(relay(1), 2)), made(relay(1), "white", 2, relay_row))
        self.assertEqual(quick_algorithm(relay(1), quick_paper(relay(1), 3)), made(relay(1), "white", 3, relay_row))
        task = turned(relay(1))
        for reach in (1, 2, 3):
            algorithm = quick_algorithm(paper=quick_paper(task, reach), task=task)
            self.assertEqual(algorithm, made(task, "white", reach, turned_relay_row))
        for D in (2, 3, 4):
            self.assertEqual(quick_algorithm(echo(D), quick_paper(echo(D), 1)), made(echo(D), "white", 1, echo_row))

    def test_the_papers_that_are_made(self):
        reaches = set()
        for task, reach, paper in papers():
            reaches.add(self.assert_made(task, paper)[2])
        self.assertEqual(reaches, {0, 1, 2, 3})

    def test_papers_of_other_easings(self):
        for task, _, paper in other_papers():
            self.assert_made(task, paper)

    def test_another_paper_may_give_another_algorithm(self):
        task = all_rows(2, 1, 2)
        every = task_with((2, 2), (every_row((2, 2)),), (every_row((2, 2)),) * 2)
        # What the last task's algorithm gives is what is led up.
        pairs = [((least, ((label,), (label,))),) for label in (0, 1) for least in [all_rows(2, 2, 1)]
                 if check_quick(every, 1, ((least, ((label,), (label,))),))]
        self.assertGreater(len(pairs), 0)
        for paper in pairs:
            self.assert_made(every, paper)
        self.assert_made(task, ((all_rows(2, 2, 1), ((0,), (0,))),))

    def test_labels_are_numbered_as_in_the_task_ahead(self):
        self.assertEqual(tidied(SPARE)[1], ((0, 2), (0, 2)))
        for reach in (1, 2, 3):
            algorithm = self.assert_made(SPARE, quick_paper(SPARE, reach))
            self.assertEqual({label for row in algorithm[3].values() for label in row}, {0, 2})
        self.assertEqual(quick_algorithm(SPARE, quick_paper(SPARE, 1)),
                         made(SPARE, "white", 1, lambda view: tuple(2 * label for label in echo_row(view))))
        tidy = [task for task in chance_tasks(150, [(3, 3), (3, 4)], 35) if tidied(task)[0] != task]
        found = 0
        for task in tidy:
            for reach in (1, 2):
                paper = quick_paper(task, reach)
                if paper is not None:
                    self.assert_made(task, paper)
                    found += 1
        self.assertGreater(found, 20)

    def test_against_the_words_of_the_document(self):
        found = {1: 0, 2: 0}
        for task in chance_tasks(100, [(2, 2), (3, 2), (2, 3), (2, 2, 2)], 60):
            for reach in (1, 2) if task[1] == 2 else (1,):
                paper = quick_paper(task, reach)
                if paper is not None:
                    self.assert_made(task, paper)
                    found[reach] += 1
        self.assertTrue(all(many > 10 for many in found.values()), found)

    def test_reach_0(self):
        for task in (all_rows(2, 1, 1), all_rows(4, 4, 4)):
            self.assertEqual(quick_algorithm(task, ()), nowhere(task))
        for task in (echo(2), unlike(2), relay(3)):
            self.assert_bad(task, ())

    def test_what_is_no_tuple_of_at_most_3_pairs(self):
        for task in (echo(2), unlike(2), all_rows(2, 1, 1)):
            for value in OTHER_VALUES:
                self.assert_bad(task, value)
        single = all_rows(2, 2, 2)
        pair = (single, plain(single))
        for many in range(7):
            if many < 4:
                self.assert_quick(single, many, (pair,) * many, True)
                self.assert_made(single, (pair,) * many)
            else:
                self.assert_bad(single, (pair,) * many)
            if many > 0:
                self.assert_bad(single, [pair] * many)
                self.assert_bad(single, (pair,) * (many - 1) + (list(pair),))
        self.assert_bad(single, {0: pair})

    def test_a_last_task_without_an_algorithm_of_reach_0(self):
        for task, reach in ((relay(1), 1), (unlike(2), 1), (unlike(2), 3), (turned(relay(2)), 2)):
            self.assert_quick(task, reach, told_plain_pairs(task, reach), False)
            self.assert_bad(task, told_plain_pairs(task, reach))

    def test_too_many_views_behind_bad_easing(self):
        for task, reach in ((all_rows(3, 4, 3), 2), (all_rows(4, 2, 3), 2), (all_rows(3, 2, 2), 3)):
            paper = quick_paper(task, reach)
            self.assertEqual(len(paper), reach)
            with self.assertRaises(errors.TooMany):
                quick_algorithm(task, paper)
            self.assert_bad(task, with_part(paper, (0, 1), ((0,),) * (task[1] - 1) + ((1,),)))
            self.assert_bad(task, paper[:-1] + (list(paper[-1]),))
            self.assert_bad(task, list(paper))
        # 131072 views are not too many.
        task = all_rows(4, 2, 2)
        self.assertEqual(len(quick_algorithm(task, quick_paper(task, 2))[3]), 131072)

    def test_wrong_tasks(self):
        for task in NO_TASKS:
            for paper in ((), None, quick_paper(echo(2), 1), [5]):
                with self.assertRaises(errors.BadTask):
                    quick_algorithm(task, paper)

    def test_changed_tables_change_no_later_answer(self):
        for task, _, paper in papers():
            first = quick_algorithm(task, paper)
            told = copy.deepcopy(first)
            first[3].clear()
            self.assertEqual(quick_algorithm(task, paper), told)


class QuickPaperTest(QuickCase):

    def test_where_there_is_no_algorithm(self):
        for task, least in ((relay(1), 2), (turned(relay(1)), 1), (relay(2), 4), (turned(relay(2)), 3), (echo(3), 1),
                            (SPARE, 1), (all_rows(3, 2, 2), 0), (unlike(2), 4)):
            for reach in range(4):
                paper = quick_paper(reach=reach, task=task)
                if reach < least:
                    self.assertIsNone(paper)
                else:
                    self.assertEqual(paper, told_plain_pairs(task, reach))
                    self.assert_quick(task, reach, paper, True)

    def test_where_less_raises(self):
        for reach in range(1, 4):
            self.assertIsNone(quick_paper(relay(3), reach))
            self.assertIsNone(quick_paper(unlike(6), reach))
            self.assertIsNone(quick_paper(task_with((2, 2), (((0, 0),),), ((), ())), reach))
        # The task has an algorithm, but the step from it would be too large.
        every = task_with((8, 8), (every_row((8, 8)),), (tuple(row for row in every_row((8, 8)) if row[0] >= row[1]),))
        self.assertIsNotNone(nowhere(every))
        self.assertEqual(quick_paper(every, 0), ())
        for reach in range(1, 4):
            self.assertIsNone(quick_paper(every, reach))

    def test_tidied_ahead_of_the_step(self):
        # With 16 labels the step could not be taken from the task as it is.
        small = echo(2)
        wide = task_with((8, 8), (small[3][0] + ((7, 2),),), small[4])
        with self.assertRaises(errors.TooMany):
            less(wide)
        self.assertEqual(quick_paper(wide, 1), quick_paper(small, 1))
        self.assertEqual(quick_algorithm(wide, quick_paper(wide, 1)), made(wide, "white", 1, echo_row))

    def test_there_is_one_just_where_there_is_an_algorithm(self):
        answers = []
        for task in chance_tasks(80, [(2, 2), (3, 2), (2, 3), (2, 2, 2)], 60):
            for reach in range(3):
                if told_plain_pairs(task, reach) is not None:
                    paper = quick_paper(task, reach)
                    answers.append(paper is not None)
                    self.assertEqual(answers[-1], solved(task, reach) is not None)
                    self.assertEqual(slow_paper(task, reach) is None, answers[-1])
                else:
                    self.assertIsNone(quick_paper(task, reach))
        self.assertGreater(answers.count(True), 20)
        self.assertGreater(answers.count(False), 20)


if __name__ == "__main__":
    unittest.main()
