"""check_algorithm, row_at, flaw_of and is_flaw of looksfar.algorithms."""

import copy
import random
import unittest

from looksfar import errors
from looksfar.algorithms import check_algorithm, flaw_of, is_flaw, row_at
from looksfar.views import all_views
from tests.changing import at_path, paths_of, with_part
from tests.examples import (
    chance_algorithm, chance_tasks, echo, echo_row, every_row, made, relay, relay_row, turned_relay_row, unlike)
from tests.told import all_flaws

HUGE = 10 ** 5000
TASK = ("task", 2, (2, 3), (((0, 1), (1, 0)), ((0, 2),)), (((0, 0), (0, 2), (1, 1)),))
NO_TASKS = (None, (), list(TASK), TASK[:4], with_part(TASK, (1,), True), with_part(TASK, (3, 0), [(0, 1)]))
OTHER_VALUES = (None, True, False, 0, HUGE, "", "algorithm", (), [], {}, ((),), ("algorithm",))


def first(view):
    return (0, 0)


def with_item(algorithm, view, row):
    """The algorithm with a row more, or another row, in its table."""
    return algorithm[:3] + ({**algorithm[3], view: row},)


def without(algorithm, view):
    return algorithm[:3] + ({key: row for key, row in algorithm[3].items() if key != view},)


def with_key(algorithm, view, key):
    """The algorithm with another value in the place of a view."""
    return algorithm[:3] + ({key if known == view else known: row for known, row in algorithm[3].items()},)


class CheckCase(unittest.TestCase):

    def assert_right(self, task, algorithm):
        before = copy.deepcopy((task, algorithm))
        self.assertIsNone(check_algorithm(task, algorithm))
        self.assertEqual((task, algorithm), before)

    def assert_wrong(self, task, algorithm):
        before = copy.deepcopy((task, algorithm))
        for look in (check_algorithm, flaw_of):
            with self.assertRaises(errors.BadAlgorithm):
                look(task, algorithm)
        with self.assertRaises(errors.BadAlgorithm):
            is_flaw(task, algorithm, None)
        # Compared by hand: assertEqual would write out what is too long to be written.
        self.assertTrue((task, algorithm) == before)


class RightAlgorithmsTest(CheckCase):

    def test_both_sides_and_all_reaches(self):
        for side in ("white", "black"):
            for reach in range(4):
                self.assert_right(TASK, made(TASK, side, reach, first))

    def test_other_numbers_of_colours(self):
        for D, most in ((3, 3), (4, 1)):
            task = echo(D)
            for side in ("white", "black"):
                for reach in range(most + 1 if side == "white" or D == 4 else 2):
                    self.assert_right(task, made(task, side, reach, lambda view: (1,) * D))

    def test_rows_that_are_not_allowed(self):
        for row in every_row((2, 3)):
            self.assert_right(TASK, made(TASK, "white", 1, lambda view: row))

    def test_the_order_of_the_keys(self):
        algorithm = made(TASK, "white", 2, first)
        keys = list(algorithm[3])
        self.assert_right(TASK, algorithm[:3] + ({key: (0, 0) for key in reversed(keys)},))

    def test_by_names(self):
        self.assertIsNone(check_algorithm(algorithm=made(TASK, "white", 0, first), task=TASK))


class WrongAlgorithmsTest(CheckCase):

    def setUp(self):
        self.algorithms = [made(TASK, side, reach, first) for side in ("white", "black") for reach in range(4)]

    def test_no_tuples(self):
        for value in OTHER_VALUES:
            self.assert_wrong(TASK, value)
        for algorithm in self.algorithms:
            self.assert_wrong(TASK, list(algorithm))
            self.assert_wrong(TASK, algorithm[:3])
            self.assert_wrong(TASK, algorithm[1:])
            self.assert_wrong(TASK, algorithm + (None,))
            self.assert_wrong(TASK, algorithm[3])

    def test_other_words(self):
        for algorithm in self.algorithms:
            for word in ("task", "Algorithm", "algorithm ", "", None, 0, ("algorithm",), ["algorithm"]):
                self.assert_wrong(TASK, (word,) + algorithm[1:])

    def test_other_sides(self):
        for algorithm in self.algorithms:
            # With two white inputs and a black one no table is right for both sides.
            turned = "white" if algorithm[1] == "black" else "black"
            for side in (turned, "White", "grey", "", None, 0, 1, True, ("white",), ["white"], {"white": 0}):
                self.assert_wrong(TASK, with_part(algorithm, (1,), side))

    def test_other_reaches(self):
        for algorithm in self.algorithms:
            for reach in (True, False, None, -1, 4, 5, HUGE, -HUGE, "1", "", (1,), [], {}):
                self.assert_wrong(TASK, with_part(algorithm, (2,), reach))
            for reach in range(4):
                if reach != algorithm[2]:
                    self.assert_wrong(TASK, with_part(algorithm, (2,), reach))

    def test_reach_4(self):
        task = echo(2)
        self.assert_wrong(task, ("algorithm", "black", 4, {view: (0, 0) for view in all_views(2, 2, 1, 4)}))

    def test_true_and_false_as_reach(self):
        self.assert_wrong(TASK, ("algorithm", "white", True, made(TASK, "white", 1, first)[3]))
        self.assert_wrong(TASK, ("algorithm", "white", False, made(TASK, "white", 0, first)[3]))

    def test_tables_that_are_no_dicts(self):
        for algorithm in self.algorithms:
            items = tuple(algorithm[3].items())
            for table in (items, list(items), tuple(algorithm[3]), None, "", 0, True, [], ()):
                self.assert_wrong(TASK, algorithm[:3] + (table,))

    def test_a_view_left_out(self):
        for algorithm in self.algorithms:
            self.assert_wrong(TASK, algorithm[:3] + ({},))
            for view in list(algorithm[3])[:4] + list(algorithm[3])[-1:]:
                self.assert_wrong(TASK, without(algorithm, view))

    def test_a_key_more(self):
        for algorithm in self.algorithms:
            more = [view for reach in range(4) if reach != algorithm[2] for view in all_views(2, 2, 1, reach)[:1]]
            more.extend([None, True, 0, "", "white", (), (5,), (-1,), (HUGE,), ("0",), (None,), ((0,),)])
            for key in more:
                self.assert_wrong(TASK, with_item(algorithm, key, (0, 0)))

    def test_a_view_of_another_kind_for_one(self):
        for algorithm in self.algorithms:
            view = list(algorithm[3])[-1]
            for reach in range(4):
                for own, others in ((2, 1), (1, 2), (3, 2)):
                    for key in all_views(2, own, others, reach)[-1:]:
                        if key not in algorithm[3]:
                            self.assert_wrong(TASK, with_key(algorithm, view, key))
            for key in (None, 0, "", "view", (), (7,), view + (0,), (view,), all_views(3, 1, 1, algorithm[2])[0]):
                if key not in algorithm[3]:
                    self.assert_wrong(TASK, with_key(algorithm, view, key))

    def test_parts_of_keys_changed(self):
        for algorithm in self.algorithms:
            view = list(algorithm[3])[-1]
            for path in paths_of(view):
                part = at_path(view, path)
                others = [True, False, -1, 2, HUGE, "0", (), (None,)]
                if part is not None:
                    others.append(None)
                if isinstance(part, tuple):
                    others.extend([part[1:], part + (0,), part + (None,), (part,)])
                for other in others:
                    key = with_part(view, path, other)
                    if other.__class__ is not part.__class__ or other != part:
                        # True and False stand for 1 and 0 in a dict, so they take the place of the right key.
                        with self.subTest(path=path, kind=other.__class__):
                            self.assert_wrong(TASK, with_key(algorithm, view, key))

    def test_true_and_false_within_keys(self):
        for task, side, reach in ((TASK, "white", 0), (TASK, "black", 0), (TASK, "white", 2), (echo(3), "white", 1)):
            row = (0,) * task[1]
            right = made(task, side, reach, lambda view: row)
            for view in right[3]:
                for path in paths_of(view):
                    if at_path(view, path) in (0, 1):
                        key = with_part(view, path, at_path(view, path) == 1)
                        table = {known: row for known in right[3] if known != view}
                        table[key] = row
                        self.assertEqual(table, right[3])
                        self.assert_wrong(task, right[:3] + (table,))

    def test_inputs_of_the_keys_at_their_bounds(self):
        for side in ("white", "black"):
            algorithm = made(TASK, side, 2, first)
            for view in list(algorithm[3]):
                for path in paths_of(view):
                    if isinstance(at_path(view, path), int):
                        own = len(path) % 4 == 1
                        bound = 2 if own == (side == "white") else 1
                        self.assert_wrong(TASK, with_key(algorithm, view, with_part(view, path, bound)))

    def test_rows(self):
        rows = [(0,), (), (0, 0, 0), [0, 0], (2, 0), (0, 3), (-1, 0), (0, -1), (HUGE, 0), (True, 0), (0, False),
                (False, False), (None, 0), ("0", 0), (0, (0,)), ([], 0), None, 0, "00", True, {0: 0}, {}, ((0, 0),)]
        for algorithm in self.algorithms:
            for view in list(algorithm[3])[:1] + list(algorithm[3])[-1:]:
                for row in rows:
                    self.assert_wrong(TASK, with_item(algorithm, view, row))

    def test_the_task_it_is_for(self):
        algorithm = made(TASK, "white", 1, lambda view: (1, 2))
        self.assert_right(TASK, algorithm)
        self.assert_wrong(with_part(TASK, (2,), (2, 2))[:3] + (((), ()), ((),)), algorithm)
        self.assert_wrong(TASK[:3] + (TASK[3][:1], TASK[4]), algorithm)
        self.assert_wrong(TASK[:3] + (TASK[3], TASK[4] * 2), algorithm)
        self.assert_wrong(echo(3), algorithm)

    def test_where_there_are_far_too_many_views(self):
        task = ("task", 4, (1, 1, 1, 1), (((0, 0, 0, 0),),) * 4, (((0, 0, 0, 0),),) * 4)
        for side in ("white", "black"):
            for table in ({}, {(0,): (0, 0, 0, 0)}, {all_views(4, 1, 1, 3)[0]: (0, 0, 0, 0)}):
                self.assert_wrong(task, ("algorithm", side, 3, table))

    def test_a_wrong_task_comes_first(self):
        for task in NO_TASKS:
            for algorithm in (made(TASK, "white", 0, first), None, (), ("algorithm", "grey", -1, {})):
                for look in (check_algorithm, flaw_of, lambda task, algorithm: is_flaw(task, algorithm, None)):
                    with self.assertRaises(errors.BadTask):
                        look(task, algorithm)


class RowAtTest(unittest.TestCase):

    def test_the_row_of_each_view(self):
        chance = random.Random(1)
        for side in ("white", "black"):
            for reach in range(4):
                algorithm = chance_algorithm(chance, TASK, side, reach)
                before = copy.deepcopy(algorithm)
                for view, row in algorithm[3].items():
                    self.assertEqual(row_at(algorithm, view), row)
                self.assertEqual(algorithm, before)

    def test_by_names(self):
        self.assertEqual(row_at(view=(1,), algorithm=made(TASK, "white", 0, lambda view: (0, 2))), (0, 2))

    def test_it_looks_at_nothing(self):
        self.assertEqual(row_at((None, None, None, {(9,): "row"}), (9,)), "row")


class FlawOfTest(unittest.TestCase):

    def test_algorithms_that_solve(self):
        turned = relay(1)[:3] + (relay(1)[4], relay(1)[3])
        for task, side, reach, rule in (
                (relay(1), "white", 2, relay_row), (relay(1), "white", 3, relay_row),
                (turned, "black", 2, relay_row), (turned, "white", 1, turned_relay_row),
                (relay(1), "black", 1, turned_relay_row), (turned, "white", 3, turned_relay_row),
                (echo(2), "white", 1, echo_row), (echo(3), "white", 1, echo_row), (echo(4), "white", 1, echo_row),
                (echo(3), "black", 0, lambda view: view * 3), (echo(2), "white", 2, echo_row)):
            algorithm = made(task, side, reach, rule)
            before = copy.deepcopy((task, algorithm))
            self.assertIsNone(flaw_of(task, algorithm))
            self.assertEqual((task, algorithm), before)

    def test_own_ones_come_first(self):
        task = ("task", 2, (2, 2), (((0, 0),), ((1, 1),)), (((0, 0),),))
        wrong = made(task, "white", 0, lambda view: (0, 0))
        self.assertEqual(flaw_of(task, wrong), ("own", (1,)))
        own_right = made(task, "white", 0, lambda view: view * 2)
        self.assertEqual(flaw_of(task, own_right), ("other", (0, ((0,), (1,)))))
        self.assertEqual(flaw_of(algorithm=own_right, task=task), ("other", (0, ((0,), (1,)))))
        self.assertEqual(flaw_of(task, made(task, "white", 0, lambda view: (1, 0))), ("own", (0,)))

    def test_a_black_algorithm(self):
        task = ("task", 2, (2, 2), (((0, 0),),), (((0, 0),), ((1, 1),)))
        self.assertEqual(flaw_of(task, made(task, "black", 0, lambda view: (0, 0))), ("own", (1,)))
        right = made(task, "black", 0, lambda view: view * 2)
        self.assertEqual(flaw_of(task, right), ("other", (0, ((0,), (1,)))))

    def test_inputs_without_rows(self):
        task = ("task", 2, (1, 1), (((0, 0),), ()), (((0, 0),), ()))
        self.assertEqual(flaw_of(task, made(task, "white", 1, first)), ("own", (1, ((0,), (0,)))))
        task = task[:3] + ((((0, 0),),), task[4])
        self.assertEqual(flaw_of(task, made(task, "white", 0, first)), ("other", (1, ((0,), (0,)))))

    def test_against_the_words_of_the_document(self):
        chance = random.Random(2)
        kinds = {"own": 0, "other": 0, None: 0}
        for task in chance_tasks(60, [(2, 2), (2, 3), (1, 2), (2, 2, 2), (2, 1, 2, 1)], 85):
            for side in ("white", "black"):
                for reach in range(3 if task[1] == 2 else 1):
                    algorithm = chance_algorithm(chance, task, side, reach, 99)
                    told = (all_flaws(task, algorithm) + [None])[0]
                    self.assertEqual(flaw_of(task, algorithm), told)
                    kinds[told and told[0]] += 1
        self.assertTrue(all(many >= 5 for many in kinds.values()), kinds)

    def test_reach_3(self):
        task = unlike(2)
        for side in ("white", "black"):
            algorithm = made(task, side, 3, first)
            self.assertEqual(flaw_of(task, algorithm), all_flaws(task, algorithm)[0])
        self.assertEqual(flaw_of(task, made(task, "white", 3, first)), ("other", all_views(2, 1, 1, 4)[0]))
        self.assertEqual(flaw_of(task, made(task, "black", 3, first)), ("own", all_views(2, 1, 1, 3)[0]))
        relayed = made(relay(2), "white", 3, lambda view: relay(2)[3][view[0]][0])
        self.assertEqual(flaw_of(relay(2), relayed), all_flaws(relay(2), relayed)[0])

    def test_a_changed_table_changes_the_next_answer_only(self):
        algorithm = made(echo(2), "white", 1, lambda view: (0, 0))
        flaw = flaw_of(echo(2), algorithm)
        algorithm[3].clear()
        self.assertEqual(flaw, ("other", (1, ((0, (None, (0,))), (0, ((0,), None))))))


class TooManyTest(unittest.TestCase):

    def wide(self, D, p, q):
        row = (0,) * D
        return ("task", D, (1,) * D, ((row,),) * p, ((row,),) * q)

    def test_more_than_200000_views_of_the_other_side(self):
        # For D 4, p 1 and q 3 there are 3 * 27 ** 4 black views of reach 2.
        for D, p, q, reach in ((4, 1, 3, 1), (4, 2, 1, 2), (3, 2, 2, 2), (3, 4, 4, 1), (2, 4, 4, 3)):
            task = self.wide(D, p, q)
            algorithm = made(task, "white", reach, lambda view: (0,) * D)
            self.assertIsNone(check_algorithm(task, algorithm))
            with self.assertRaises(errors.TooMany):
                flaw_of(task, algorithm)
            turned = task[:3] + (task[4], task[3])
            with self.assertRaises(errors.TooMany):
                flaw_of(turned, ("algorithm", "black") + algorithm[2:])
            self.assertIs(is_flaw(task, algorithm, ("own", all_views(D, 1, 1, reach)[0])), False)
            self.assertIs(is_flaw(task, algorithm, ("other", all_views(D, 1, 1, reach + 1)[0])), False)

    def test_ahead_of_an_own_flaw(self):
        task = self.wide(4, 1, 3)
        task = task[:3] + (((),), task[4])
        algorithm = made(task, "white", 1, lambda view: (0, 0, 0, 0))
        with self.assertRaises(errors.TooMany):
            flaw_of(task, algorithm)
        self.assertIs(is_flaw(task, algorithm, ("own", all_views(4, 1, 1, 1)[0])), True)

    def test_behind_the_checks(self):
        task = self.wide(4, 4, 4)
        with self.assertRaises(errors.BadAlgorithm):
            flaw_of(task, ("algorithm", "white", 3, {}))
        with self.assertRaises(errors.BadTask):
            flaw_of(task + (0,), ("algorithm", "white", 3, {}))

    def test_not_for_200000_or_less(self):
        for D, p, q, reach in ((4, 2, 2, 1), (3, 1, 1, 3), (2, 4, 3, 3)):
            task = self.wide(D, p, q)
            self.assertIsNone(flaw_of(task, made(task, "white", reach, lambda view: (0,) * D)))


class IsFlawTest(unittest.TestCase):

    def test_every_flaw_and_nothing_else(self):
        chance = random.Random(3)
        for task in chance_tasks(20, [(2, 2), (2, 3), (2, 2, 2)], 70):
            for side in ("white", "black"):
                for reach in range(2 if task[1] == 2 else 1):
                    algorithm = chance_algorithm(chance, task, side, reach, 60)
                    flaws = all_flaws(task, algorithm)
                    for kind in ("own", "other"):
                        for own, others in ((1, 1), (1, 2), (2, 1), (2, 2)):
                            for steps in (reach, reach + 1):
                                for view in all_views(task[1], own, others, steps):
                                    flaw = (kind, view)
                                    self.assertIs(is_flaw(task, algorithm, flaw), flaw in flaws)

    def test_by_names(self):
        algorithm = made(unlike(2), "white", 0, first)
        self.assertIs(is_flaw(flaw=("other", (0, ((0,), (0,)))), algorithm=algorithm, task=unlike(2)), True)

    def test_the_first_flaw_is_one(self):
        for reach in range(4):
            for side in ("white", "black"):
                algorithm = made(unlike(2), side, reach, first)
                flaw = flaw_of(unlike(2), algorithm)
                before = copy.deepcopy((algorithm, flaw))
                self.assertIs(is_flaw(unlike(2), algorithm, flaw), True)
                self.assertEqual((algorithm, flaw), before)

    def test_one_place_changed(self):
        # Nothing is allowed, so each right pair is a flaw.
        task = ("task", 2, (2, 2), ((), ()), ((), (), ()))
        for side, own, others in (("white", 2, 3), ("black", 3, 2)):
            for reach in range(4):
                algorithm = made(task, side, reach, first)
                for flaw in (("own", all_views(2, own, others, reach)[-1]),
                             ("other", all_views(2, others, own, reach + 1)[-1])):
                    self.assertIs(is_flaw(task, algorithm, flaw), True)
                    for path in paths_of(flaw):
                        part = at_path(flaw, path)
                        wrong = [True, False, -1, 3, HUGE, "0", "", [], {}, (), [0]]
                        if part is not None:
                            wrong.append(None)
                        if isinstance(part, tuple):
                            wrong.extend([list(part), part[1:], part[:-1], part + (0,), part + (None,), (part,)])
                        for value in wrong:
                            with self.subTest(side=side, reach=reach, path=path, kind=value.__class__):
                                changed = with_part(flaw, path, value)
                                self.assertIs(is_flaw(task, algorithm, changed), False)

    def test_another_kind_word(self):
        task = ("task", 2, (2, 2), ((),), ((),))
        algorithm = made(task, "white", 1, first)
        views = [all_views(2, 1, 1, reach)[0] for reach in range(5)]
        for word in ("own", "other", "Own", "others", "", None, 0, True, ("own",), ["own"], {"own": 0}):
            for reach, view in enumerate(views):
                right = (word == "own" and reach == 1) or (word == "other" and reach == 2)
                self.assertIs(is_flaw(task, algorithm, (word, view)), right)

    def test_other_values(self):
        task = ("task", 2, (2, 2), ((),), ((),))
        algorithm = made(task, "white", 0, first)
        for value in OTHER_VALUES + (("own",), ("own", (0,), 0), ["own", (0,)], {"own": (0,)}, "own", {("own", (0,))}):
            self.assertIs(is_flaw(task, algorithm, value), False)

    def test_views_of_reach_4(self):
        task = ("task", 2, (1, 1), (((0, 0),), ((0, 0),)), ((),))
        algorithm = made(task, "white", 3, first)
        views = all_views(2, 1, 2, 4)
        for view in (views[0], views[-1]):
            self.assertIs(is_flaw(task, algorithm, ("other", view)), True)
        self.assertIs(is_flaw(task, algorithm, ("own", all_views(2, 2, 1, 3)[0])), False)


if __name__ == "__main__":
    unittest.main()
