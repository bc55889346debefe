"""relay of looksfar.relays."""

import random
import unittest

from looksfar import errors
from looksfar.deciding import least_reach
from looksfar.networks import is_content
from looksfar.relays import relay
from looksfar.tasks import check_task, turned
from tests.changing import HUGE
from tests.nets import behind, chance_network


class RelayTest(unittest.TestCase):

    def test_row_by_row(self):
        for steps in range(1, 6):
            task = relay(steps)
            self.assertIsNone(check_task(task))
            word, D, labels, white, black = task
            many = {1: 2, 2: 4, 3: 8, 4: 16, 5: 32}[steps]
            self.assertEqual((word, D, labels, len(white), len(black)), ("task", 2, (many, many), 2, 1))
            for a in range(many):
                for b in range(many):
                    self.assertEqual((a, b) in black[0], a == b)
                    for x in (0, 1):
                        # The binary figures move on by one place, and the input is the last one.
                        figures = f"{a:0{steps}b}"[1:] + str(x)
                        self.assertEqual((a, b) in white[x], b == int(figures, 2))
            self.assertEqual([len(rows) for rows in white + black], [many] * 3)

    def test_in_full(self):
        self.assertEqual(relay(1), ("task", 2, (2, 2), (((0, 0), (1, 0)), ((0, 1), (1, 1))), (((0, 0), (1, 1)),)))
        self.assertEqual(relay(steps=2), ("task", 2, (4, 4), (
            ((0, 0), (1, 2), (2, 0), (3, 2)), ((0, 1), (1, 3), (2, 1), (3, 3))), (((0, 0), (1, 1), (2, 2), (3, 3)),)))

    def test_other_numbers_of_steps(self):
        for steps in (0, 6, 7, -1, HUGE, -HUGE, True, False, None, "1", "", (1,), [1], {}):
            with self.assertRaises(errors.BadReach):
                relay(steps)

    def test_its_least_reach(self):
        for steps in (1, 2):
            self.assertEqual(least_reach(relay(steps), 6), ("reach", 2 * steps))
            self.assertEqual(least_reach(turned(relay(steps)), 6), ("reach", 2 * steps - 1))
        for steps in (1, 2):
            for most in range(2 * steps):
                self.assertEqual(least_reach(relay(steps), most), ("unknown", most))

    def test_labels_bear_the_inputs_of_the_last_white_nodes(self):
        chance = random.Random(91)
        for steps in range(1, 6):
            for n in (1, 2, 3, 7, 20):
                network = chance_network(chance, n, 2, 2, 1)
                rows = []
                for i in range(n):
                    # Back along the road: out of white nodes by colour 1, out of black ones by colour 2.
                    node, figures = i, [network[3][i]]
                    for _ in range(steps):
                        end = behind(network, "white", node, 1)[1]
                        node = behind(network, "black", end, 2)[1]
                        figures.insert(0, network[3][node])
                    rows.append((int("".join(map(str, figures[:-1])), 2), int("".join(map(str, figures[1:])), 2)))
                self.assertIs(is_content(relay(steps), network, rows), True)


if __name__ == "__main__":
    unittest.main()
