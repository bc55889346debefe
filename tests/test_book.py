"""The class Book of looksfar.book."""

import copy
import itertools
import random
import unittest

from looksfar import errors
from looksfar.algorithms import flaw_of
from looksfar.book import Book
from looksfar.deciding import least_reach, solved
from looksfar.easings import check_easing, eased, never_paper, slow_paper
from looksfar.relays import relay
from looksfar.tasks import turned
from looksfar.widening import crossed
from tests.changing import HUGE, with_part
from tests.examples import chance_tasks, echo, echo_row, every_row, made, relay_row, turned_relay_2_row, unlike

TASK = ("task", 2, (2, 3), (((0, 1), (1, 0)), ((0, 2),)), (((0, 0), (0, 2), (1, 1)),))
NO_TASKS = (None, (), 5, list(TASK), TASK[:4], with_part(TASK, (1,), True), with_part(TASK, (3, 0), [(0, 1)]))
NO_ALGORITHMS = (None, (), 0, "algorithm", [], {}, ("algorithm", "white", 1, {}), ("algorithm", "grey", 1, {}))
NO_REACHES = (-1, 7, HUGE, -HUGE, True, False, None, "1", "", (1,), [1], {})
PLAIN = ((0, 1), (0, 1))

# All edges may have label 0; so may they in ANY, where all is allowed.
ZERO = ("task", 2, (2, 2), (((0, 0),),), (((0, 0),),))
ANY = ("task", 2, (2, 2), (every_row((2, 2)),), (every_row((2, 2)),))
ZEROS = ("algorithm", "white", 0, {(0,): (0, 0)})
BLACK_ZEROS = ("algorithm", "black", 0, {(0,): (0, 0)})


def between(low, high):
    return ("between", low, high)


class Ways:
    """What follows of a list of facts, told by the shortest ways from task to task."""

    def __init__(self, facts):
        self.facts = facts
        self.tasks = []
        for fact in facts:
            for task in fact[1]:
                self.add(task)

    def add(self, task):
        for each in (task, task[:3] + (task[4], task[3])):
            if each not in self.tasks:
                self.tasks.append(each)

    def lengths(self):
        """For each pair of tasks how many steps more the second may take than the first, or None."""
        lengths = {}
        for task in self.tasks:
            lengths[task, task[:3] + (task[4], task[3])] = 1
        for fact in self.facts:
            if fact[0] == "ease":
                first, second = fact[1]
                lengths[first, second] = 0
                lengths[first[:3] + (first[4], first[3]), second[:3] + (second[4], second[3])] = 0
        for task in self.tasks:
            lengths[task, task] = 0
        for over, first, second in itertools.product(self.tasks, repeat=3):
            if (first, over) in lengths and (over, second) in lengths:
                more = lengths[first, over] + lengths[over, second]
                lengths[first, second] = min(more, lengths.get((first, second), more))
        return lengths

    def bounds(self, task):
        self.add(task)
        lengths = self.lengths()
        low, high = 0, None
        for kind, about, *told in self.facts:
            at = about[0]
            if kind == "black":
                at = at[:3] + (at[4], at[3])
            if kind == "close" and (task, at) in lengths:
                return ("never",)
            if kind == "bar" and (task, at) in lengths:
                low = max(low, told[0] + 1 - lengths[task, at])
            if kind in ("white", "black") and (at, task) in lengths:
                reach = told[0] + lengths[at, task]
                high = reach if high is None else min(high, reach)
        return between(low, high)


class KindsOfFactsTest(unittest.TestCase):

    def test_a_book_without_facts(self):
        for task in (TASK, echo(2), unlike(2), relay(5)):
            self.assertEqual(Book().bounds(task), between(0, None))
            self.assertEqual(Book().bounds(task=task), between(0, None))

    def test_solve_white(self):
        for reach in (1, 2, 3):
            book = Book()
            self.assertIsNone(book.solve(echo(2), made(echo(2), "white", reach, echo_row)))
            self.assertEqual(book.bounds(echo(2)), between(0, reach))
            self.assertEqual(book.bounds(turned(echo(2))), between(0, reach + 1))
            self.assertEqual(book.bounds(unlike(2)), between(0, None))
        book = Book()
        self.assertIsNone(book.solve(algorithm=ZEROS, task=ZERO))
        self.assertEqual(book.bounds(ZERO), between(0, 0))

    def test_solve_black(self):
        for reach, rule in ((0, lambda view: view * 2), (1, lambda view: view[:1] * 2)):
            book = Book()
            self.assertIsNone(book.solve(echo(2), made(echo(2), "black", reach, rule)))
            self.assertEqual(book.bounds(turned(echo(2))), between(0, reach))
            self.assertEqual(book.bounds(echo(2)), between(0, reach + 1))
        # A black algorithm tells of the turned task, a white one of the task itself.
        book = Book()
        task = turned(relay(2))
        book.solve(relay(2), ("algorithm", "black") + made(task, "white", 3, turned_relay_2_row)[2:])
        self.assertEqual(book.bounds(task), between(0, 3))
        self.assertEqual(book.bounds(relay(2)), between(0, 4))

    def test_the_least_high_counts(self):
        book = Book()
        for reach, high in ((3, 3), (2, 2), (3, 2), (1, 1), (2, 1)):
            book.solve(echo(2), made(echo(2), "white", reach, echo_row))
            self.assertEqual(book.bounds(echo(2)), between(0, high))

    def test_bar(self):
        for reach in range(4):
            book = Book()
            self.assertIsNone(book.bar(relay(2), reach, slow_paper(relay(2), reach)))
            self.assertEqual(book.bounds(relay(2)), between(reach + 1, None))
            self.assertEqual(book.bounds(turned(relay(2))), between(reach, None))
        book = Book()
        self.assertIsNone(book.bar(paper=(), reach=0, task=echo(3)))
        self.assertEqual(book.bounds(echo(3)), between(1, None))
        self.assertEqual(book.bounds(turned(echo(3))), between(0, None))

    def test_the_greatest_low_counts(self):
        book = Book()
        for reach, low in ((1, 2), (0, 2), (3, 4), (2, 4)):
            book.bar(relay(2), reach, slow_paper(relay(2), reach))
            self.assertEqual(book.bounds(relay(2)), between(low, None))

    def test_reach_6(self):
        book = Book()
        self.assertIsNone(book.bar(unlike(2), 6, slow_paper(unlike(2), 6)))
        self.assertEqual(book.bounds(unlike(2)), between(7, None))

    def test_close(self):
        for task in (unlike(2), ("task", 2, (2, 2), (((0, 0),), ()), (((0, 0),),))):
            book = Book()
            self.assertIsNone(book.close(task, never_paper(task, 6)))
            self.assertEqual(book.bounds(task), ("never",))
            self.assertEqual(book.bounds(turned(task)), ("never",))
            self.assertEqual(book.bounds(echo(2)), between(0, None))
        book = Book()
        self.assertIsNone(book.close(paper=never_paper(unlike(2), 6), task=unlike(2)))

    def test_never_is_told_whatever_else_is_kept(self):
        book = Book()
        book.bar(unlike(2), 3, slow_paper(unlike(2), 3))
        book.close(unlike(2), never_paper(unlike(2), 6))
        book.bar(unlike(2), 1, slow_paper(unlike(2), 1))
        self.assertEqual(book.bounds(unlike(2)), ("never",))
        book.take_back()
        book.take_back()
        self.assertEqual(book.bounds(unlike(2)), between(4, None))

    def test_ease(self):
        book = Book()
        self.assertIsNone(book.ease(ZERO, ANY, PLAIN))
        self.assertIsNone(book.ease(easing=PLAIN, second=ANY, first=ZERO))
        # An easing alone tells of no bounds.
        for task in (ZERO, ANY, turned(ZERO)):
            self.assertEqual(book.bounds(task), between(0, None))

    def test_bounds_change_nothing(self):
        book = Book()
        book.solve(echo(2), made(echo(2), "white", 1, echo_row))
        for task in (echo(2), unlike(2), echo(3), turned(echo(2))) * 2:
            book.bounds(task)
        self.assertEqual(book.bounds(echo(2)), between(0, 1))
        self.assertIsNone(book.take_back())
        self.assertEqual(book.bounds(echo(2)), between(0, None))

    def test_two_books(self):
        first, second = Book(), Book()
        first.solve(ZERO, ZEROS)
        self.assertEqual(second.bounds(ZERO), between(0, None))
        second.take_back()
        self.assertEqual(first.bounds(ZERO), between(0, 0))


class RulesTest(unittest.TestCase):
    """One rule of [29] after the other, and several of them in a row."""

    def test_high_by_an_easing(self):
        book = Book()
        book.ease(ZERO, ANY, PLAIN)
        book.solve(ZERO, made(ZERO, "white", 2, lambda view: (0, 0)))
        self.assertEqual(book.bounds(ANY), between(0, 2))
        # Not the other way.
        book = Book()
        book.ease(ZERO, ANY, PLAIN)
        book.solve(ANY, ZEROS)
        self.assertEqual(book.bounds(ZERO), between(0, None))

    def test_low_by_an_easing(self):
        wider = with_part(relay(1), (3, 0), ((0, 0), (0, 1), (1, 0)))
        self.assertIs(check_easing(relay(1), wider, PLAIN), True)
        low = least_reach(wider, 6)[1]
        self.assertGreater(low, 0)
        book = Book()
        book.ease(relay(1), wider, PLAIN)
        book.bar(wider, low - 1, slow_paper(wider, low - 1))
        self.assertEqual(book.bounds(relay(1)), between(low, None))
        book = Book()
        book.ease(relay(1), wider, PLAIN)
        book.bar(relay(1), 1, slow_paper(relay(1), 1))
        self.assertEqual(book.bounds(relay(1)), between(2, None))
        self.assertEqual(book.bounds(wider), between(0, None))

    def test_never_by_an_easing(self):
        harder = with_part(unlike(2), (3, 0), ((0, 0),))
        book = Book()
        book.ease(harder, unlike(2), PLAIN)
        book.close(unlike(2), never_paper(unlike(2), 6))
        self.assertEqual(book.bounds(harder), ("never",))
        self.assertEqual(book.bounds(turned(harder)), ("never",))
        # Not the other way.
        book = Book()
        book.ease(harder, unlike(2), PLAIN)
        book.close(harder, never_paper(harder, 6))
        self.assertEqual(book.bounds(harder), ("never",))
        self.assertEqual(book.bounds(unlike(2)), between(0, None))

    def test_by_the_turned_task(self):
        book = Book()
        book.solve(relay(1), made(relay(1), "white", 2, relay_row))
        book.bar(relay(1), 1, slow_paper(relay(1), 1))
        self.assertEqual(book.bounds(relay(1)), between(2, 2))
        self.assertEqual(book.bounds(turned(relay(1))), between(1, 3))
        book.bar(turned(relay(1)), 0, ())
        self.assertEqual(book.bounds(turned(relay(1))), between(1, 3))
        # What comes back by the turned task is no better than what was there.
        self.assertEqual(book.bounds(relay(1)), between(2, 2))

    def test_by_an_easing_of_the_turned_tasks(self):
        # The easing is kept for zero and every, the facts are about their turned ones.
        zero = with_part(turned(ZERO), (3, 0), ((0, 0), (1, 1)))
        every = with_part(zero, (3, 0), every_row((2, 2)))
        self.assertNotEqual(turned(zero), zero)
        self.assertNotEqual(turned(every), every)
        book = Book()
        book.ease(zero, every, PLAIN)
        book.solve(turned(zero), ZEROS)
        self.assertEqual(book.bounds(turned(zero)), between(0, 0))
        # By the turned ones it is 0; by the tasks themselves it would be 2.
        self.assertEqual(book.bounds(turned(every)), between(0, 0))
        self.assertEqual(book.bounds(every), between(0, 1))
        self.assertEqual(book.bounds(zero), between(0, 1))
        # Likewise for low and for never.
        harder = with_part(relay(1), (3, 0), ((0, 0),))
        book = Book()
        book.ease(harder, relay(1), PLAIN)
        book.bar(turned(relay(1)), 0, ())
        self.assertEqual(book.bounds(turned(harder)), between(1, None))
        self.assertEqual(book.bounds(harder), between(0, None))
        harder = with_part(unlike(2), (3, 0), ((0, 0),))
        book = Book()
        book.ease(harder, unlike(2), PLAIN)
        book.close(turned(unlike(2)), never_paper(turned(unlike(2)), 6))
        self.assertEqual(book.bounds(turned(harder)), ("never",))
        self.assertEqual(book.bounds(harder), ("never",))

    def test_a_row_of_easings_in_any_order(self):
        rows = every_row((2, 2))
        chain = [("task", 2, (2, 2), (rows[:many],), (((0, 0), (1, 1)),)) for many in (1, 2, 3, 4)]
        steps = list(zip(chain, chain[1:]))
        for order in itertools.permutations(range(3)):
            book = Book()
            for at in order:
                book.ease(*steps[at], PLAIN)
            book.solve(turned(chain[0]), made(turned(chain[0]), "white", 1, lambda view: (0, 0)))
            self.assertEqual([book.bounds(task) for task in chain], [between(0, 2)] * 4)
            self.assertEqual([book.bounds(turned(task)) for task in chain], [between(0, 1)] * 4)
            for _ in range(2):
                book.take_back()
            last = order[-1]
            book.solve(chain[0], ZEROS)
            self.assertEqual([book.bounds(task) for task in chain],
                             [between(0, 0 if at <= last else None) for at in range(4)])

    def test_tasks_that_are_not_kept_themselves(self):
        # Bounds of a task of which only the turned one was ever handed in.
        book = Book()
        book.bar(relay(2), 3, slow_paper(relay(2), 3))
        self.assertEqual(book.bounds(turned(relay(2))), between(3, None))
        book.bar(turned(relay(2)), 2, slow_paper(turned(relay(2)), 2))
        book.take_back()
        self.assertEqual(book.bounds(relay(2)), between(4, None))

    def test_low_is_not_below_0(self):
        book = Book()
        book.bar(echo(2), 0, ())
        self.assertEqual(book.bounds(echo(2)), between(1, None))
        self.assertEqual(book.bounds(turned(echo(2))), between(0, None))

    def test_equal_tasks_of_other_objects(self):
        book = Book()
        book.solve(copy.deepcopy(ZERO), ZEROS)
        book.ease(tuple([*ZERO]), copy.deepcopy(ANY), PLAIN)
        again = ("task", 2, tuple([2, 2]), tuple([tuple([tuple([0, 0])])]), tuple([tuple([tuple([0, 0])])]))
        self.assertEqual(book.bounds(again), between(0, 0))
        self.assertEqual(book.bounds(ANY[:3] + tuple([*ANY[3:]])), between(0, 0))
        # Tasks that are the same up to names only are not equal.
        ones = ("task", 2, (2, 2), (((1, 1),),), (((1, 1),),))
        self.assertEqual(book.bounds(ones), between(0, None))

    def test_a_task_that_is_its_own_turned_one(self):
        self.assertEqual(turned(ZERO), ZERO)
        book = Book()
        book.solve(ZERO, BLACK_ZEROS)
        self.assertEqual(book.bounds(ZERO), between(0, 0))
        book.ease(ZERO, ZERO, PLAIN)
        self.assertEqual(book.bounds(ZERO), between(0, 0))

    def test_what_comes_round(self):
        # Easings to and fro, and turned tasks between: it comes to an end.
        ones = ("task", 2, (2, 2), (((1, 1),),), (((1, 1),),))
        book = Book()
        book.ease(ZERO, ones, ((1, 1), (1, 1)))
        book.ease(ones, ZERO, ((0, 0), (0, 0)))
        book.ease(relay(1), turned(turned(relay(1))), PLAIN)
        book.bar(relay(1), 1, slow_paper(relay(1), 1))
        book.solve(ones, made(ones, "black", 3, lambda view: (1, 1)))
        self.assertEqual([book.bounds(task) for task in (ZERO, ones, relay(1), turned(relay(1)))],
                         [between(0, 3), between(0, 3), between(2, None), between(1, None)])


class AgainstTheWordsTest(unittest.TestCase):

    def facts(self):
        """Facts of all kinds about some tasks, each with what is handed in."""
        tasks = [task for task in chance_tasks(120, [(2, 2)], 60) if len(task[3]) == len(task[4]) == 1][:14]
        tasks.extend([unlike(2), turned(unlike(2)), ZERO, ANY])
        found = []
        easings = list(itertools.product(itertools.product((0, 1), repeat=2), repeat=2))
        for first, second in itertools.permutations(tasks, 2):
            right = [easing for easing in easings if check_easing(first, second, easing)]
            if right:
                found.append((("ease", (first, second)), (first, second, right[0])))
        few = found[::3]
        for task in tasks:
            for reach in range(4):
                if slow_paper(task, reach) is not None:
                    few.append((("bar", (task,), reach), (task, reach, slow_paper(task, reach))))
                algorithm = solved(task, reach)
                if algorithm is not None:
                    few.append((("white", (task,), reach), (task, algorithm)))
                    if reach < 3:
                        few.append((("black", (task,), reach + 1), (task, crossed(task, algorithm))))
            if never_paper(task, 6) is not None:
                few.append((("close", (task,)), (task, never_paper(task, 6))))
        return tasks, few

    def test_chance_facts(self):
        chance = random.Random(101)
        tasks, facts = self.facts()
        names = {"ease": "ease", "bar": "bar", "white": "solve", "black": "solve", "close": "close"}
        self.assertEqual({fact[0] for fact, _ in facts}, set(names))
        answers = []
        for _ in range(12):
            book, kept = Book(), []
            for _ in range(12):
                if kept and chance.randrange(5) == 0:
                    self.assertIsNone(book.take_back())
                    kept.pop()
                else:
                    kind = chance.choice(sorted(names))
                    fact, given = chance.choice([each for each in facts if each[0][0] == kind])
                    before = copy.deepcopy(given)
                    self.assertIsNone(getattr(book, names[kind])(*given))
                    self.assertEqual(given, before)
                    kept.append(fact)
            told = Ways(list(kept))
            for task in tasks:
                for each in (task, turned(task)):
                    answers.append(told.bounds(each))
                    self.assertEqual(book.bounds(each), answers[-1])
        self.assertGreater(answers.count(("never",)), 10)
        self.assertGreater(len(set(answers)), 8)

    def test_bounds_are_right(self):
        # What follows of facts that were looked at is so.
        tasks, facts = self.facts()
        book = Book()
        for fact, given in facts:
            getattr(book, {"white": "solve", "black": "solve"}.get(fact[0], fact[0]))(*given)
        for task in tasks:
            for each in (task, turned(task)):
                least, told = least_reach(each, 6), book.bounds(each)
                if told == ("never",):
                    self.assertEqual(least[0], "never")
                elif least[0] == "reach":
                    self.assertLessEqual(told[1], least[1])
                    self.assertTrue(told[2] is None or least[1] <= told[2])


class WrongFactsTest(unittest.TestCase):

    def setUp(self):
        self.book = Book()
        self.book.solve(echo(2), made(echo(2), "white", 2, echo_row))
        self.book.bar(relay(1), 0, ())
        self.book.close(unlike(2), never_paper(unlike(2), 6))
        self.book.ease(ZERO, ANY, PLAIN)

    def told(self):
        tasks = (echo(2), relay(1), unlike(2), ZERO, ANY, TASK, relay(2))
        return [self.book.bounds(task) for task in tasks + tuple(turned(task) for task in tasks)]

    def assert_raises(self, error, method, *given):
        before, told = copy.deepcopy(given), self.told()
        with self.assertRaises(error):
            getattr(self.book, method)(*given)
        self.assertTrue(given == before)
        self.assertEqual(self.told(), told)

    def tearDown(self):
        # Nothing was kept: the last fact is still the easing, the one ahead of it that of never.
        self.book.solve(ZERO, ZEROS)
        self.assertEqual(self.book.bounds(ANY), between(0, 0))
        for _ in range(2):
            self.book.take_back()
        self.assertEqual(self.book.bounds(unlike(2)), ("never",))
        self.book.take_back()
        self.assertEqual(self.book.bounds(unlike(2)), between(0, None))

    def test_algorithms_with_flaws(self):
        for task, algorithm in ((echo(2), made(echo(2), "white", 1, lambda view: (0, 0))),
                                (echo(2), made(echo(2), "black", 0, lambda view: (0, 1))),
                                (relay(1), made(relay(1), "white", 1, lambda view: (0, 0))),
                                (ZERO, ("algorithm", "white", 0, {(0,): (1, 1)}))):
            self.assertIsNotNone(flaw_of(task, algorithm))
            self.assert_raises(errors.BadAlgorithm, "solve", task, algorithm)

    def test_values_that_are_no_algorithm(self):
        for algorithm in NO_ALGORITHMS + (made(echo(3), "white", 0, lambda view: (0, 0, 0)),):
            self.assert_raises(errors.BadAlgorithm, "solve", echo(2), algorithm)

    def test_papers_of_slowness_that_are_not_right(self):
        paper = slow_paper(relay(1), 1)
        for task, reach, wrong in ((relay(1), 0, paper), (relay(1), 1, ()), (relay(1), 2, paper), (echo(2), 1, paper),
                                   (relay(1), 1, list(paper)), (relay(1), 1, None), (relay(1), 1, (5,)), (ZERO, 0, ()),
                                   (relay(1), 1, ((paper[0][0], ((0, 0), (0, 0))),)), (relay(3), 1, paper),
                                   (("task", 2, (1, 1), (((0, 0),),), ((),)), 1, paper)):
            self.assert_raises(errors.BadEasing, "bar", task, reach, wrong)

    def test_papers_of_never_that_are_not_right(self):
        k, pairs = never_paper(unlike(2), 6)
        for task, wrong in ((unlike(2), (0, pairs)), (unlike(2), (True, pairs)), (unlike(2), (-1, pairs)),
                            (unlike(2), (k, pairs[:1])), (unlike(2), [k, pairs]), (unlike(2), None), (unlike(2), (-1, ())),
                            (echo(2), (k, pairs)), (ZERO, (-1, ())), (relay(3), (k, pairs))):
            self.assert_raises(errors.BadEasing, "close", task, wrong)

    def test_easings_that_are_none(self):
        for first, second, wrong in ((ANY, ZERO, PLAIN), (ZERO, ANY, list(PLAIN)), (ZERO, ANY, None), (ZERO, ANY, ()),
                                     (ZERO, ANY, ((0, True), (0, 1))), (ZERO, ANY, ((0, 2), (0, 1))),
                                     (ZERO, echo(2), PLAIN), (ZERO, echo(3), PLAIN), (ANY, ZERO, ((0, 0), (0, 1)))):
            self.assert_raises(errors.BadEasing, "ease", first, second, wrong)

    def test_wrong_tasks(self):
        for task in NO_TASKS:
            self.assert_raises(errors.BadTask, "solve", task, None)
            self.assert_raises(errors.BadTask, "solve", task, ZEROS)
            self.assert_raises(errors.BadTask, "bar", task, 7, None)
            self.assert_raises(errors.BadTask, "bar", task, 0, ())
            self.assert_raises(errors.BadTask, "close", task, None)
            self.assert_raises(errors.BadTask, "ease", task, ANY, PLAIN)
            self.assert_raises(errors.BadTask, "ease", ZERO, task, None)
            self.assert_raises(errors.BadTask, "bounds", task)

    def test_wrong_reaches(self):
        for reach in NO_REACHES:
            for task, paper in ((unlike(2), ()), (relay(1), None), (ZERO, ((),)), (relay(3), ())):
                self.assert_raises(errors.BadReach, "bar", task, reach, paper)

    def test_too_many(self):
        # There are 442368 black views of reach 2, and the algorithm has a flaw at each of them.
        task = ("task", 3, (1, 1, 1), (((0, 0, 0),),) * 3, ((),) * 4)
        self.assert_raises(errors.TooMany, "solve", task, made(task, "white", 1, lambda view: (0, 0, 0)))
        self.assert_raises(errors.BadAlgorithm, "solve", task, made(task, "white", 0, lambda view: (0, 0, 0)))


class TakeBackTest(unittest.TestCase):

    def test_where_there_is_none(self):
        book = Book()
        for _ in range(3):
            self.assertIsNone(book.take_back())
        book.solve(ZERO, ZEROS)
        self.assertEqual(book.bounds(ZERO), between(0, 0))
        for _ in range(3):
            self.assertIsNone(book.take_back())
            self.assertEqual(book.bounds(ZERO), between(0, None))
        book.solve(ZERO, ZEROS)
        self.assertEqual(book.bounds(ZERO), between(0, 0))

    def test_facts_kept_twice(self):
        book = Book()
        algorithm = made(echo(2), "white", 1, echo_row)
        for _ in range(3):
            book.solve(echo(2), algorithm)
        for _ in range(3):
            self.assertEqual(book.bounds(echo(2)), between(0, 1))
            book.take_back()
        self.assertEqual(book.bounds(echo(2)), between(0, None))
        for _ in range(2):
            book.close(unlike(2), never_paper(unlike(2), 6))
        book.take_back()
        self.assertEqual(book.bounds(unlike(2)), ("never",))
        book.take_back()
        self.assertEqual(book.bounds(unlike(2)), between(0, None))

    def test_one_fact_after_the_other(self):
        book = Book()
        book.solve(echo(2), made(echo(2), "white", 2, echo_row))
        book.solve(echo(2), made(echo(2), "white", 1, echo_row))
        book.bar(echo(2), 0, ())
        book.ease(ZERO, ANY, PLAIN)
        book.solve(ZERO, ZEROS)
        self.assertEqual([book.bounds(task) for task in (echo(2), ANY)], [between(1, 1), between(0, 0)])
        book.take_back()
        self.assertEqual([book.bounds(task) for task in (echo(2), ANY)], [between(1, 1), between(0, None)])
        book.take_back()
        book.solve(ZERO, ZEROS)
        self.assertEqual([book.bounds(task) for task in (echo(2), ANY)], [between(1, 1), between(0, None)])
        book.take_back()
        book.take_back()
        self.assertEqual(book.bounds(echo(2)), between(0, 1))
        book.take_back()
        self.assertEqual(book.bounds(echo(2)), between(0, 2))
        book.take_back()
        self.assertEqual(book.bounds(echo(2)), between(0, None))


class ChangedAfterwardsTest(unittest.TestCase):

    def test_tables_that_are_changed(self):
        book = Book()
        algorithm = made(echo(2), "white", 1, echo_row)
        book.solve(echo(2), algorithm)
        algorithm[3].clear()
        self.assertEqual(book.bounds(echo(2)), between(0, 1))
        other = made(echo(2), "white", 1, echo_row)
        exchanged = eased(echo(2), echo(2), PLAIN, other)
        book.solve(echo(2), exchanged)
        other[3].clear()
        exchanged[3][None] = 5
        book.take_back()
        self.assertEqual(book.bounds(echo(2)), between(0, 1))


if __name__ == "__main__":
    unittest.main()
