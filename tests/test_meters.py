"""Points 5 and 6: the meters."""

import itertools
import random
import unittest

from turnstile.bounds import Jar, Window
from turnstile.stretches import broken
from tests import plain

EDGE_BOUNDS = [
    ("jar", 1, 0), ("jar", 1, 10 ** 9), ("jar", 10 ** 15, 0), ("jar", 10 ** 15, 10 ** 9), ("jar", 10 ** 9, 1),
    ("window", 1, 1), ("window", 1, 10 ** 12), ("window", 10 ** 15, 1), ("window", 10 ** 15, 10 ** 12),
    ("window", 10 ** 9, 10 ** 12),
]


def held(meter):
    """The most things that any list, tuple, set or dict of this meter has."""
    return max((len(value) for value in vars(meter).values() if hasattr(value, "__len__")), default=0)


class JarExamples(unittest.TestCase):
    def test_it_fills_and_flows(self):
        meter = Jar(5, 2).meter()
        self.assertTrue(meter.can(0, 5))
        self.assertFalse(meter.can(0, 6))
        meter.take(0, 4)
        self.assertTrue(meter.can(0, 1))
        self.assertFalse(meter.can(0, 2))
        self.assertFalse(meter.can(1, 4))
        self.assertTrue(meter.can(1, 3))
        self.assertEqual([meter.wait(0, cost) for cost in (1, 2, 3, 4, 5)], [0, 1, 1, 2, 2])
        self.assertEqual([meter.wait(1, cost) for cost in (3, 4, 5)], [0, 1, 1])
        self.assertEqual(meter.wait(9, 5), 0)
        self.assertIsNone(meter.wait(0, 6))

    def test_it_is_never_less_than_empty(self):
        meter = Jar(5, 2).meter()
        meter.take(0, 1)
        meter.take(100, 5)
        self.assertFalse(meter.can(100, 1))
        self.assertEqual(meter.wait(100, 5), 3)

    def test_without_a_flow(self):
        meter = Jar(5, 0).meter()
        meter.take(3, 4)
        self.assertTrue(meter.can(3, 1))
        self.assertEqual(meter.wait(3, 1), 0)
        self.assertFalse(meter.can(10 ** 12, 2))
        self.assertIsNone(meter.wait(3, 2))
        self.assertIsNone(meter.wait(3, 5))

    def test_a_wait_beyond_the_largest_moment(self):
        meter = Jar(10 ** 9, 1).meter()
        meter.take(10 ** 12, 10 ** 9)
        self.assertEqual(meter.wait(10 ** 12, 10 ** 9), 10 ** 9)
        self.assertFalse(meter.can(10 ** 12 + 10 ** 9 - 1, 10 ** 9))
        self.assertTrue(meter.can(10 ** 12 + 10 ** 9, 10 ** 9))
        meter.take(10 ** 12 + 10 ** 9, 10 ** 9)
        self.assertEqual(meter.wait(10 ** 12 + 10 ** 9, 1), 1)

    def test_it_keeps_no_visits(self):
        meter = Jar(10 ** 15, 0).meter()
        self.assertEqual(meter.kept(), 0)
        for moment in range(500):
            meter.take(moment // 2, 1)
            self.assertEqual((meter.kept(), held(meter)), (0, 0))


class WindowExamples(unittest.TestCase):
    def test_it_frees_at_its_span(self):
        meter = Window(5, 3).meter()
        self.assertTrue(meter.can(0, 5))
        self.assertFalse(meter.can(0, 6))
        meter.take(0, 2)
        meter.take(1, 3)
        self.assertEqual([meter.can(moment, 1) for moment in (1, 2, 3)], [False, False, True])
        self.assertEqual([meter.can(moment, 3) for moment in (2, 3, 4)], [False, False, True])
        self.assertEqual([meter.wait(1, cost) for cost in (1, 2, 3, 4, 5)], [2, 2, 3, 3, 3])
        self.assertEqual([meter.wait(moment, 5) for moment in (1, 2, 3, 4, 5)], [3, 2, 1, 0, 0])
        self.assertIsNone(meter.wait(1, 6))

    def test_of_one_moment(self):
        meter = Window(5, 1).meter()
        meter.take(7, 3)
        self.assertTrue(meter.can(7, 2))
        self.assertEqual(meter.wait(7, 3), 1)
        meter.take(7, 2)
        self.assertEqual(meter.kept(), 2)
        meter.take(8, 5)
        self.assertEqual(meter.kept(), 1)

    def test_a_wait_beyond_the_largest_moment(self):
        meter = Window(10 ** 9, 10 ** 12).meter()
        meter.take(10 ** 12, 10 ** 9)
        self.assertEqual(meter.wait(10 ** 12, 1), 10 ** 12)
        self.assertFalse(meter.can(2 * 10 ** 12 - 1, 1))
        self.assertTrue(meter.can(2 * 10 ** 12, 1))
        meter.take(2 * 10 ** 12, 1)
        self.assertEqual(meter.wait(2 * 10 ** 12 + 4, 10 ** 9), 10 ** 12 - 4)

    def test_it_keeps_those_in_reach_of_the_last(self):
        meter = Window(10 ** 15, 3).meter()
        self.assertEqual(meter.kept(), 0)
        kept = []
        for moment in (0, 0, 1, 2, 3, 3, 5, 9, 12, 13):
            meter.take(moment, 1)
            kept.append(meter.kept())
        self.assertEqual(kept, [1, 2, 3, 4, 3, 4, 3, 1, 1, 2])

    def test_asking_later_forgets_nothing(self):
        meter = Window(5, 3).meter()
        meter.take(0, 5)
        self.assertTrue(meter.can(10 ** 12, 5))
        self.assertEqual(meter.wait(10 ** 12, 5), 0)
        self.assertEqual(meter.kept(), 1)
        self.assertFalse(meter.can(2, 1))
        self.assertEqual(meter.wait(0, 1), 3)


class OfBoth(unittest.TestCase):
    def test_costs_larger_than_any_room(self):
        for told in (("jar", 7, 10 ** 9), ("jar", 7, 0), ("window", 7, 1), ("window", 7, 10 ** 12)):
            meter = plain.made(told).meter()
            for _ in range(2):
                for cost in (8, 10 ** 9):
                    self.assertIs(meter.can(0, cost), False)
                    self.assertIs(meter.can(10 ** 12, cost), False)
                    self.assertIsNone(meter.wait(0, cost))
                    self.assertIsNone(meter.wait(10 ** 12, cost))
                meter.take(0, 7)

    def test_by_whom_nobody_came_any_moment_is_free(self):
        for told in (("jar", 7, 10 ** 9), ("jar", 7, 0), ("window", 7, 1), ("window", 7, 10 ** 12)):
            for moment in (-10 ** 12, -1, 0, 1, 10 ** 12, 10 ** 30):
                meter = plain.made(told).meter()
                self.assertEqual([meter.can(moment, cost) for cost in (1, 7, 8)], [True, True, False])
                self.assertEqual([meter.wait(moment, cost) for cost in (1, 7, 8)], [0, 0, None])
                meter.take(moment, 7)
                self.assertFalse(meter.can(moment, 1))

    def test_the_least_bounds(self):
        for told in (("jar", 1, 1), ("window", 1, 1)):
            meter = plain.made(told).meter()
            for moment in range(20):
                self.assertTrue(meter.can(moment, 1))
                meter.take(moment, 1)
                self.assertFalse(meter.can(moment, 1))
                self.assertEqual(meter.wait(moment, 1), 1)

    def test_the_answers_are_true_false_and_numbers(self):
        for told in (("jar", 5, 1), ("window", 5, 2)):
            meter = plain.made(told).meter()
            meter.take(0, 3)
            self.assertIs(meter.can(0, 2), True)
            self.assertIs(meter.can(0, 3), False)
            self.assertIs(type(meter.wait(0, 2)), int)
            self.assertIs(type(meter.wait(0, 3)), int)
            self.assertIsNone(meter.take(0, 2))


class AgainstThePlainGoingThrough(unittest.TestCase):
    def hold_asks(self, told, meter, came, moment, cost):
        """Holds can and wait of a visit against points 3 to 5, whatever its numbers."""
        about = (told, came, moment, cost)
        self.assertEqual(meter.can(moment, cost), plain.can(told, came, moment, cost), about)
        wait = meter.wait(moment, cost)
        if wait is None:
            for more in (0, 10 ** 12, plain.FAR):
                self.assertFalse(plain.can(told, came, moment + more, cost), about)
                self.assertFalse(meter.can(moment + more, cost), about)
            return
        self.assertGreaterEqual(wait, 0, about)
        for more in (wait, wait + 1, wait + 10 ** 12):
            self.assertTrue(plain.can(told, came, moment + more, cost), about)
            self.assertTrue(meter.can(moment + more, cost), about)
        if wait > 0:
            self.assertFalse(plain.can(told, came, moment + wait - 1, cost), about)
            self.assertFalse(meter.can(moment + wait - 1, cost), about)

    def hold_kept(self, told, meter, came):
        self.assertLessEqual(meter.kept(), plain.in_reach(told, came), (told, came))
        self.assertLessEqual(held(meter), plain.in_reach(told, came), (told, came))

    def run_row(self, told, row):
        """Asks for each visit; lets by those that can, and others when they have waited, at times."""
        meter = plain.made(told).meter()
        came = []
        late = 0
        for k, (moment, cost) in enumerate(row):
            moment += late
            self.hold_asks(told, meter, came, moment, cost)
            if k % 3 == 0 and not meter.can(moment, cost) and meter.wait(moment, cost) is not None:
                late += meter.wait(moment, cost)
                moment += meter.wait(moment, cost)
            if meter.can(moment, cost):
                meter.take(moment, cost)
                came.append((moment, cost))
            self.hold_kept(told, meter, came)
        self.assertIsNone(plain.broken(told, came))

    def test_all_small_rows(self):
        steps = list(itertools.product((0, 1, 3), (1, 2)))
        for told in plain.small_bounds(3):
            for row in itertools.product(steps, repeat=3):
                meter = plain.made(told).meter()
                came = []
                moment = 0
                for gap, cost in row:
                    moment += gap
                    self.assertEqual(meter.wait(moment, cost), plain.wait(told, came, moment, cost), (told, row))
                    if plain.can(told, came, moment, cost):
                        meter.take(moment, cost)
                        came.append((moment, cost))

    def test_who_can_by_all_stretches_whatever(self):
        chance = random.Random(7)
        for _ in range(300):
            told = plain.small_bound(chance)
            meter = plain.made(told).meter()
            came = []
            for visit in plain.small_row(chance, 5):
                self.assertEqual(meter.can(*visit), plain.keeps(told, [*came, visit]), (told, came, visit))
                if meter.can(*visit):
                    meter.take(*visit)
                    came.append(visit)

    def test_waits_moment_by_moment(self):
        chance = random.Random(8)
        for _ in range(400):
            told = plain.small_bound(chance)
            meter = plain.made(told).meter()
            came = []
            for moment, cost in plain.small_row(chance, chance.randint(1, 8)):
                self.assertEqual(meter.wait(moment, cost), plain.wait(told, came, moment, cost), (told, came))
                if meter.can(moment, cost):
                    meter.take(moment, cost)
                    came.append((moment, cost))

    def test_rows_of_small_numbers(self):
        chance = random.Random(9)
        for _ in range(600):
            self.run_row(plain.small_bound(chance), plain.small_row(chance, chance.randint(1, 12)))

    def test_rows_of_large_numbers(self):
        chance = random.Random(10)
        for _ in range(400):
            told = plain.large_bound(chance)
            self.run_row(told, plain.large_row(chance, chance.randint(1, 12)))
            self.run_row(told, plain.near_row(chance, told, chance.randint(1, 12)))

    def test_the_least_and_the_largest_numbers(self):
        visits = list(itertools.product((0, 1, 10 ** 12 - 1, 10 ** 12, 2 * 10 ** 12), (1, 10 ** 9)))
        for told in EDGE_BOUNDS:
            for row in itertools.combinations_with_replacement(visits, 3):
                self.run_row(told, row)

    def test_rows_of_two_hundred(self):
        chance = random.Random(11)
        for told in (("jar", 40, 2), ("window", 60, 30), plain.large_bound(chance)):
            self.run_row(told, plain.near_row(chance, told, 200))

    def test_asking_changes_nothing(self):
        chance = random.Random(12)
        for _ in range(300):
            told = plain.small_bound(chance)
            asked = plain.made(told).meter()
            alone = plain.made(told).meter()
            for moment, cost in plain.small_row(chance, 8):
                before = vars(asked).copy()
                for more in (0, 1, 7, 10 ** 13):
                    asked.can(moment + more, cost)
                    asked.wait(moment + more, chance.randint(1, 20))
                    asked.kept()
                self.assertEqual(vars(asked), before)
                self.assertEqual(asked.can(moment, cost), alone.can(moment, cost))
                if alone.can(moment, cost):
                    asked.take(moment, cost)
                    alone.take(moment, cost)
                self.assertEqual(asked.kept(), alone.kept())


class LaterIsNoHarder(unittest.TestCase):
    def test_who_can_at_a_moment_can_at_each_later_one(self):
        chance = random.Random(13)
        for _ in range(500):
            told = plain.small_bound(chance)
            meter = plain.made(told).meter()
            for moment, cost in plain.small_row(chance, 8):
                for asked in (cost, cost + 3):
                    can = [meter.can(moment + more, asked) for more in range(30)]
                    self.assertEqual(can, sorted(can), (told, moment, asked))
                if meter.can(moment, cost):
                    meter.take(moment, cost)


class LongRows(unittest.TestCase):
    """The promise holds for rows of whatever length, and what a meter keeps does not grow with them."""

    def let_by(self, told, row):
        meter = plain.made(told).meter()
        came = []
        shut = 0
        start = 0
        for moment, cost in row:
            if meter.can(moment, cost):
                meter.take(moment, cost)
                came.append((moment, cost))
            else:
                shut += 1
            while told[0] == "window" and came[-1][0] - came[start][0] >= told[2]:
                start += 1
            in_reach = len(came) - start if told[0] == "window" else 0
            self.assertLessEqual(meter.kept(), in_reach)
            self.assertLessEqual(held(meter), in_reach)
        self.assertIsNone(broken(plain.made(told), came))
        self.assertGreater(len(came), len(row) // 10)
        self.assertGreater(shut, len(row) // 10)

    def test_of_a_jar_and_a_window(self):
        chance = random.Random(14)
        for told in (("jar", 50, 3), ("window", 100, 60), ("window", 1000, 5000)):
            gap = 20 if told[2] == 5000 else 1
            row = [(gap * (k // 3), chance.randint(1, 5)) for k in range(20000)]
            self.let_by(told, row)

    def test_a_window_with_all_of_a_long_row_in_reach(self):
        meter = Window(10 ** 15, 10 ** 12).meter()
        for moment in range(20000):
            self.assertTrue(meter.can(moment, 10 ** 9))
            meter.take(moment, 10 ** 9)
        self.assertEqual(meter.kept(), 20000)
        meter = Window(20000, 10 ** 12).meter()
        for moment in range(20000):
            meter.take(moment, 1)
        for cost in (1, 2, 7, 19999, 20000):
            self.assertEqual(meter.wait(20000, cost), 10 ** 12 + cost - 1 - 20000)
        self.assertIsNone(meter.wait(20000, 20001))


if __name__ == "__main__":
    unittest.main()
