"""What DOC.md promises over the whole program: [1], [2], and the sentences in bold."""

import copy
import inspect
import itertools
import random
import unittest

from looksfar import (
    algorithms, book, covers, deciding, easings, errors, kinds, leading, networks, quickness, relays, renaming, steps,
    tasks, texts, views, widening)
from tests.changing import HUGE, with_part
from tests.examples import chance_algorithm, chance_tasks, echo, echo_row, every_row, made, rows_at, unlike
from tests.nets import chance_network, chance_turns, lone, ring, told_content, told_cover, told_kinds, view_numbers

NO_TASKS = (None, True, 0, HUGE, "", "task", (), [], {}, ("task",), list(echo(2)), with_part(echo(2), (1,), True),
            with_part(echo(2), (2,), [2, 2]), with_part(echo(2), (4, 0), [(0, 0)]), with_part(echo(2), (4,), ()))
NO_NETWORKS = (None, True, 0, "", "network", (), [], {}, list(lone(2)), lone(3), lone(5), with_part(lone(2), (1,), True),
               with_part(lone(2), (3, 0), 4))
NO_ALGORITHMS = (None, True, 0, "", (), [], {}, ("algorithm", "white", 1, {}), ("algorithm", "grey", 0, {(0,): (0, 0)}))
NO_STEPS = (-1, HUGE, -HUGE, True, False, None, "1", "", (), (1,), [1], {})

ECHO = made(echo(2), "white", 1, echo_row)
PLAIN = ((0, 1), (0, 1))
LOWER = deciding.nowhere(steps.less(echo(2)))
BOTH = made(widening.both(echo(2), echo(2)), "black", 0, lambda view: (3 * view[0],) * 2)
NETWORK = ring((0, 0), (0, 1))
PAPER = quickness.quick_paper(echo(2), 1)

# Each function that is handed a task, an algorithm or a network, with what is right for it.
CALLS = [
    (tasks.check_task, {"task": echo(2)}),
    (tasks.turned, {"task": echo(2)}),
    (tasks.row_allowed, {"task": echo(2), "side": "white", "number": 0, "row": (0, 0)}),
    (tasks.write_task, {"task": echo(2)}),
    (algorithms.check_algorithm, {"task": echo(2), "algorithm": ECHO}),
    (algorithms.flaw_of, {"task": echo(2), "algorithm": ECHO}),
    (algorithms.is_flaw, {"task": echo(2), "algorithm": ECHO, "flaw": ("own", (0, ((0,), (0,))))}),
    (steps.less, {"task": echo(2)}),
    (steps.sets_of, {"task": echo(2)}),
    (steps.made_greatest, {"task": echo(2), "number": 0, "sets": [[0], [0]]}),
    (leading.led_down, {"task": echo(2), "algorithm": ECHO}),
    (leading.led_up, {"task": echo(2), "algorithm": LOWER}),
    (widening.farther, {"task": echo(2), "algorithm": ECHO}),
    (widening.crossed, {"task": echo(2), "algorithm": ECHO}),
    (widening.both, {"first": echo(2), "second": echo(2)}),
    (widening.parts_of, {"first": echo(2), "second": echo(2), "algorithm": BOTH}),
    (renaming.same_up_to_names, {"first": echo(2), "second": echo(2)}),
    (deciding.nowhere, {"task": echo(2)}),
    (deciding.solved, {"task": echo(2), "reach": 1}),
    (deciding.tidied, {"task": echo(2)}),
    (deciding.least_reach, {"task": echo(2), "most": 2}),
    (easings.check_easing, {"first": echo(2), "second": echo(2), "easing": PLAIN}),
    (easings.eased, {"first": echo(2), "second": echo(2), "easing": PLAIN, "algorithm": ECHO}),
    (easings.check_slow, {"task": echo(2), "reach": 0, "paper": ()}),
    (easings.slow_paper, {"task": echo(2), "reach": 0}),
    (easings.check_never, {"task": unlike(2), "paper": easings.never_paper(unlike(2), 6)}),
    (easings.never_paper, {"task": unlike(2), "most": 6}),
    (networks.check_network, {"network": NETWORK, "task": echo(2)}),
    (networks.labelled, {"task": echo(2), "network": NETWORK, "algorithm": ECHO}),
    (networks.is_content, {"task": echo(2), "network": NETWORK, "rows": [(0, 1), (1, 0)]}),
    (networks.network_showing, {"task": echo(2), "flaw": ("other", (1, ((0,), (0,))))}),
    (quickness.check_quick, {"task": echo(2), "reach": 1, "paper": PAPER}),
    (quickness.quick_algorithm, {"task": echo(2), "paper": PAPER}),
    (quickness.quick_paper, {"task": echo(2), "reach": 1}),
    (kinds.check_plain, {"network": NETWORK}),
    (kinds.views_by_messages, {"network": NETWORK, "rounds": 1}),
    (kinds.kinds, {"network": NETWORK}),
    (kinds.base_of, {"network": NETWORK}),
    (covers.cover_of, {"network": NETWORK, "turns": (((0, 1), (1, 0)),) * 2}),
    (covers.content_rows, {"task": echo(2), "network": NETWORK}),
    (covers.even_rows, {"task": echo(2), "network": NETWORK}),
    (relays.relay, {"steps": 2}),
    (texts.read_algorithm, {"task": echo(2), "text": "algorithm white 0\n0,0"}),
    (texts.write_algorithm, {"task": echo(2), "algorithm": ECHO}),
    (book.Book().solve, {"task": echo(2), "algorithm": ECHO}),
    (book.Book().bar, {"task": echo(2), "reach": 0, "paper": ()}),
    (book.Book().close, {"task": unlike(2), "paper": easings.never_paper(unlike(2), 6)}),
    (book.Book().ease, {"first": echo(2), "second": echo(2), "easing": PLAIN}),
    (book.Book().bounds, {"task": echo(2)}),
]
TASK_NAMES = ("task", "first", "second")
STEP_NAMES = ("reach", "most", "rounds", "steps")
MODULES = (algorithms, book, covers, deciding, easings, kinds, leading, networks, quickness, relays, renaming, steps,
           tasks, texts, views, widening)


class ArgumentsTest(unittest.TestCase):
    """[2]"""

    def test_by_names_and_in_order_and_nothing_modified(self):
        for function, given in CALLS:
            with self.subTest(function.__name__):
                self.assertEqual(list(inspect.signature(function).parameters), list(given))
                before = copy.deepcopy(given)
                first = copy.deepcopy(function(**given))
                self.assertEqual(function(*given.values()), first)
                self.assertEqual(function(**dict(reversed(list(given.items())))), first)
                self.assertEqual(given, before)

    def assert_raises(self, error, function, given):
        with self.subTest(function.__name__, given=str(list(given))):
            with self.assertRaises(error):
                function(**given)

    def test_tasks_are_looked_at_first(self):
        for function, given in CALLS:
            names = [name for name in given if name in TASK_NAMES]
            for name, wrong in itertools.product(names, NO_TASKS):
                self.assert_raises(errors.BadTask, function, {**given, name: wrong})
                # Ahead of whatever else is wrong.
                others = {key: given[key] if key in TASK_NAMES else None for key in given}
                self.assert_raises(errors.BadTask, function, {**others, name: wrong})

    def test_networks_are_looked_at_behind_tasks(self):
        for function, given in CALLS:
            if "network" in given:
                for wrong in NO_NETWORKS:
                    if "task" not in given and wrong == lone(3):
                        continue
                    self.assert_raises(errors.BadNetwork, function, {**given, "network": wrong})
                    others = {key: given[key] if key in TASK_NAMES else None for key in given}
                    self.assert_raises(errors.BadNetwork, function, {**others, "network": wrong})

    def test_algorithms_are_looked_at_behind_them(self):
        for function, given in CALLS:
            if "algorithm" in given:
                for wrong in NO_ALGORITHMS:
                    self.assert_raises(errors.BadAlgorithm, function, {**given, "algorithm": wrong})
                    others = {key: given[key] if key in TASK_NAMES + ("network",) else None for key in given}
                    self.assert_raises(errors.BadAlgorithm, function, {**others, "algorithm": wrong})

    def test_steps_are_looked_at_ahead_of_all_else(self):
        found = 0
        for function, given in CALLS:
            for name in STEP_NAMES:
                if name in given:
                    found += 1
                    others = {key: given[key] if key in TASK_NAMES + ("network",) else None for key in given}
                    for wrong in NO_STEPS + (7,):
                        self.assert_raises(errors.BadReach, function, {**given, name: wrong})
                        self.assert_raises(errors.BadReach, function, {**others, name: wrong})
        self.assertEqual(found, 10)

    def test_all_functions_are_looked_at(self):
        named = {function.__name__ for function, _ in CALLS}
        for module in MODULES:
            for name, function in inspect.getmembers(module, inspect.isfunction):
                if function.__module__ == module.__name__ and not name.startswith("_"):
                    parameters = list(inspect.signature(function).parameters)
                    if parameters and parameters[0] in ("task", "first") and name not in named:
                        # Helpers of the program, which the interface does not list.
                        self.assertNotIn(name, INTERFACE)

    def test_what_is_returned_belongs_to_the_caller(self):
        for function, given in CALLS:
            first = function(**given)
            told = copy.deepcopy(first)
            self.spoil(first)
            self.assertEqual(function(**given), told, function.__name__)

    def spoil(self, value):
        """Changes all lists and dicts in it."""
        if isinstance(value, (tuple, list)):
            for part in value:
                self.spoil(part)
        if isinstance(value, (list, dict)):
            value.clear()


INTERFACE = """check_task turned row_allowed read_task write_task all_views all_branches seen_through reach_of is_view
check_algorithm row_at flaw_of is_flaw less sets_of made_greatest led_down led_up farther crossed both parts_of
same_up_to_names nowhere solved tidied least_reach check_easing eased check_slow slow_paper check_never never_paper
check_network view_in labelled is_content network_showing check_quick quick_algorithm quick_paper check_plain
views_by_messages kinds base_of cover_of content_rows even_rows relay read_algorithm write_algorithm read_pairs
write_pairs""".split()


class BoldTest(unittest.TestCase):
    """The sentences in bold, by their numbers."""

    def setUp(self):
        self.chance = random.Random(121)
        self.tasks = chance_tasks(60, [(2, 2), (3, 2), (2, 3), (2, 2, 2)], 60) + [
            echo(2), echo(3), unlike(2), relays.relay(1), tasks.turned(relays.relay(1)), tasks.turned(relays.relay(2))]

    def reaches(self, task):
        return range(3) if task[1] == 2 else range(2)

    def networks_for(self, task, many=4):
        return [chance_network(self.chance, self.chance.randint(1, 6), task[1], len(task[3]), len(task[4]))
                for _ in range(many)] + [lone(task[1])]

    def test_1_an_algorithm_that_is_right_everywhere_or_a_flaw_of_each(self):
        found = {True: 0, False: 0}
        for task in self.tasks:
            for reach in range(4) if task[1] == 2 else range(2):
                algorithm = deciding.solved(task, reach)
                found[algorithm is None] += 1
                if algorithm is not None:
                    for network in self.networks_for(task):
                        rows = networks.labelled(task, network, algorithm)
                        self.assertIs(networks.is_content(task, network, rows), True)
                else:
                    claimed = chance_algorithm(self.chance, task, "white", reach)
                    flaw = algorithms.flaw_of(task, claimed)
                    self.assertIs(algorithms.is_flaw(task, claimed, flaw), True)
                    network = networks.network_showing(task, flaw)
                    rows = networks.labelled(task, network, claimed)
                    self.assertIs(networks.is_content(task, network, rows), False)
        self.assertTrue(all(many > 30 for many in found.values()), found)

    def test_8_no_flaw_and_right_on_every_network(self):
        found = 0
        for task in self.tasks:
            for side, reach in itertools.product(("white", "black"), self.reaches(task)):
                algorithm = deciding.solved(task if side == "white" else tasks.turned(task), reach)
                if algorithm is not None:
                    algorithm = (algorithm[0], side) + algorithm[2:]
                    self.assertIsNone(algorithms.flaw_of(task, algorithm))
                    for network in self.networks_for(task):
                        self.assertIs(told_content(task, network, networks.labelled(task, network, algorithm)), True)
                    found += side == "black"
        self.assertGreater(found, 30)

    def test_12_led_ones_solve(self):
        found = {"down": 0, "up": 0}
        for task in self.tasks:
            if not any(task[4]):
                continue
            lesser = steps.less(task)
            for reach in (0, 1):
                upper = deciding.solved(task, reach + 1)
                if upper is not None:
                    lower = leading.led_down(task, upper)
                    self.assertIsNone(algorithms.flaw_of(lesser, lower))
                    self.assertIsNone(algorithms.flaw_of(task, leading.led_up(task, lower)))
                    found["down"] += 1
                if reach == 0 and deciding.nowhere(lesser) is not None:
                    upper = leading.led_up(task, deciding.nowhere(lesser))
                    self.assertIsNone(algorithms.flaw_of(task, upper))
                    found["up"] += 1
        self.assertTrue(all(many > 10 for many in found.values()), found)

    def test_12_farther_and_crossed_ones_solve(self):
        for task in self.tasks:
            for reach in range(2):
                algorithm = deciding.solved(task, reach)
                if algorithm is not None:
                    self.assertIsNone(algorithms.flaw_of(task, widening.farther(task, algorithm)))
                    self.assertIsNone(algorithms.flaw_of(task, widening.crossed(task, algorithm)))

    def test_14_a_step_taken_away_is_a_step_less(self):
        for task in self.tasks:
            now, there = task, True
            for reach in self.reaches(task):
                self.assertEqual(deciding.solved(task, reach) is not None, there and deciding.nowhere(now) is not None)
                there = there and any(now[4])
                now = steps.less(now) if there else now

    def test_15_tidied_ones_are_solved_by_kept_labels_alone(self):
        found = {True: 0, False: 0}
        for task in chance_tasks(60, [(3, 3), (3, 2)], 35):
            tidy, kept = deciding.tidied(task)
            for side, reach, part in itertools.product(("white", "black"), (0, 1), (90, 100)):
                algorithm = chance_algorithm(self.chance, task, side, reach, part)
                if deciding.nowhere(task) is not None and side == "white" and part == 100:
                    algorithm = deciding.solved(task, reach)
                right = all(label in labels for row in algorithm[3].values() for label, labels in zip(row, kept))
                if right:
                    table = {view: tuple(labels.index(label) for label, labels in zip(row, kept))
                             for view, row in algorithm[3].items()}
                    right = algorithms.flaw_of(tidy, algorithm[:3] + (table,)) is None
                found[right] += 1
                self.assertEqual(algorithms.flaw_of(task, algorithm) is None, right)
        self.assertTrue(all(many > 5 for many in found.values()), found)

    def test_16_least_reaches(self):
        kinds_of_answers = set()
        for task in self.tasks:
            answer = deciding.least_reach(task, 6)
            kinds_of_answers.add(answer[0])
            for reach in self.reaches(task):
                there = deciding.solved(task, reach) is not None
                if answer[0] == "reach":
                    self.assertEqual(there, answer[1] <= reach)
                else:
                    self.assertIs(there, False)
        self.assertGreaterEqual(kinds_of_answers, {"reach", "never"})

    def test_18_and_19_papers(self):
        for task in self.tasks:
            paper = easings.never_paper(task, 6)
            if paper is not None:
                self.assertIs(easings.check_never(task, paper), True)
            for reach in self.reaches(task):
                slow = easings.slow_paper(task, reach)
                if slow is not None or paper is not None:
                    for less_far in range(reach + 1):
                        self.assertIsNone(deciding.solved(task, less_far))
                        self.assertNotEqual(
                            algorithms.flaw_of(task, chance_algorithm(self.chance, task, "white", less_far)), None)

    def test_22_what_a_paper_of_quickness_makes_solves(self):
        found = 0
        for task in self.tasks:
            for reach in self.reaches(task):
                paper = quickness.quick_paper(task, reach)
                if paper is not None:
                    algorithm = quickness.quick_algorithm(task, paper)
                    self.assertEqual(algorithm[1:3], ("white", reach))
                    self.assertIsNone(algorithms.flaw_of(task, algorithm))
                    found += 1
        self.assertGreater(found, 40)

    def test_23_messages_bring_the_view(self):
        for D, n, rounds in itertools.product((2, 3, 4), (1, 2, 5), range(5)):
            network = chance_network(self.chance, n, D, 3, 3)
            told = tuple([networks.view_in(network, side, node, rounds) for node in range(n)]
                         for side in ("white", "black"))
            self.assertEqual(kinds.views_by_messages(network, rounds), told)

    def test_24_views_of_reach_2_n_minus_2(self):
        for D, n in itertools.product((2, 3, 4), range(1, 7)):
            network = chance_network(self.chance, n, D, 2, 1)
            near, far = [view_numbers(network, reach) for reach in (2 * n - 2, 6 * n)]
            for own, side in zip(kinds.kinds(network), ("white", "black")):
                for i, j in itertools.combinations(range(n), 2):
                    alike = far[side][i] == far[side][j]
                    self.assertEqual(near[side][i] == near[side][j], alike)
                    self.assertEqual(own[i] == own[j], alike)

    def test_26_an_algorithm_exactly_if_there_are_even_rows(self):
        found = {True: 0, False: 0}
        for task in chance_tasks(80, [(2, 2), (3, 2)], 45):
            # Two white nodes at most, so that the algorithm has a reach for which it can be written out.
            base = chance_network(self.chance, self.chance.randint(1, 2), 2, len(task[3]), len(task[4]))
            network = told_cover(base, chance_turns(self.chance, base, self.chance.randint(1, 2)))
            base = kinds.base_of(network)
            rows = covers.even_rows(task, network)
            found[rows is None] += 1
            # 2 n - 2, n being the number of white nodes of the base, is 0 or 2.
            reach = 2 * base[1] - 2
            here = [networks.view_in(network, "white", node, reach) for node in range(network[1])]
            if rows is not None:
                table = dict(zip(here, rows))
                algorithm = made(task, "white", reach, lambda view: table.get(view, (0, 0)))
                self.assertEqual(networks.labelled(task, network, algorithm), rows)
                self.assertIs(networks.is_content(task, network, rows), True)
            else:
                # Whatever an algorithm gives for the views that are here, some node is not content.
                own = sorted(set(here))
                self.assertEqual(len(own), max(told_kinds(network)[0]) + 1)
                for given in itertools.product(every_row(task[2]), repeat=len(own)):
                    table = dict(zip(own, given))
                    self.assertIs(told_content(task, network, [table[view] for view in here])
                                  if all(table[view] in rows_at(task, "white")[view[0]] for view in own) else False, False)
        self.assertTrue(all(many > 10 for many in found.values()), found)

    def test_27_copies_have_the_views_of_their_nodes(self):
        for D, n, k in itertools.product((2, 3, 4), (1, 3), (1, 2, 4)):
            network = chance_network(self.chance, n, D, 2, 2)
            cover = covers.cover_of(network, chance_turns(self.chance, network, k))
            for side, node, reach in itertools.product(("white", "black"), range(n * k), range(4)):
                self.assertEqual(networks.view_in(cover, side, node, reach),
                                 networks.view_in(network, side, node // k, reach))

    def test_28_least_reaches_of_relays(self):
        for number in (1, 2):
            task = relays.relay(number)
            self.assertEqual(deciding.least_reach(task, 6), ("reach", 2 * number))
            self.assertEqual(deciding.least_reach(tasks.turned(task), 6), ("reach", 2 * number - 1))


if __name__ == "__main__":
    unittest.main()
