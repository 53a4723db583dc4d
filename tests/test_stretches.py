"""Points 1, 3 and 4: which rows keep a bound, and the first stretch that is broken."""

import itertools
import random
import unittest

from turnstile.bounds import Jar, Window
from turnstile.stretches import broken
from tests import plain


def all_small_rows(many):
    """All rows of so many visits, with moments 0 to 2 apart and costs 1 and 2."""
    steps = list(itertools.product((0, 1, 2), (1, 2)))
    for chosen in itertools.product(steps, repeat=many):
        moment = 0
        row = []
        for gap, cost in chosen:
            moment += gap
            row.append((moment, cost))
        yield row


class Examples(unittest.TestCase):
    def test_an_empty_row(self):
        for bound in (Jar(1, 0), Window(1, 1)):
            self.assertIsNone(broken(bound, []))
            self.assertIsNone(broken(bound, ()))

    def test_one_visit(self):
        for bound in (Jar(4, 10 ** 9), Window(4, 10 ** 12)):
            self.assertIsNone(broken(bound, [(7, 4)]))
            self.assertEqual(broken(bound, [(7, 5)]), (7, 7))
            self.assertEqual(broken(bound, [(10 ** 12, 10 ** 9)]), (10 ** 12, 10 ** 12))

    def test_alike_moments_are_one_stretch(self):
        for bound in (Jar(4, 9), Window(4, 1)):
            self.assertIsNone(broken(bound, [(0, 1), (0, 1), (0, 2), (1, 4)]))
            self.assertEqual(broken(bound, [(0, 1), (3, 1), (3, 2), (3, 2)]), (3, 3))

    def test_a_jar_fills_and_flows(self):
        self.assertIsNone(broken(Jar(4, 1), [(0, 4), (1, 1), (2, 1), (6, 4)]))
        self.assertEqual(broken(Jar(4, 1), [(0, 4), (1, 1), (2, 2), (6, 4)]), (0, 2))
        self.assertEqual(broken(Jar(4, 0), [(0, 2), (10 ** 12, 3)]), (0, 10 ** 12))

    def test_a_window_frees_at_its_span(self):
        self.assertIsNone(broken(Window(4, 3), [(0, 4), (3, 4), (6, 4)]))
        self.assertEqual(broken(Window(4, 3), [(0, 4), (2, 1)]), (0, 2))
        self.assertIsNone(broken(Window(1, 10 ** 12), [(0, 1), (10 ** 12, 1)]))
        self.assertEqual(broken(Window(1, 10 ** 12), [(1, 1), (10 ** 12, 1)]), (1, 10 ** 12))

    def test_the_least_first_goes_ahead_of_the_least_last(self):
        # (5, 5) is broken too, and ends at the same place; (0, 5) begins ahead of it.
        self.assertEqual(broken(Jar(4, 0), [(0, 1), (5, 5)]), (0, 5))
        # (2, 3) ends ahead of (0, 4), but begins behind it.
        self.assertEqual(broken(Jar(4, 2), [(0, 1), (2, 3), (3, 4), (4, 8), (9, 30)]), (0, 4))
        self.assertEqual(broken(Window(4, 5), [(0, 1), (1, 3), (4, 1), (5, 5)]), (0, 4))

    def test_the_least_last_of_one_first(self):
        self.assertEqual(broken(Jar(4, 1), [(0, 4), (1, 2), (2, 4), (3, 4)]), (0, 1))
        self.assertEqual(broken(Window(4, 9), [(0, 4), (1, 2), (2, 4)]), (0, 1))

    def test_a_later_end_may_be_broken_where_a_nearer_one_is_not(self):
        self.assertEqual(broken(Jar(10, 1), [(0, 1), (5, 1), (6, 16)]), (0, 6))
        self.assertEqual(broken(Jar(10, 1), [(0, 8), (9, 1), (10, 12)]), (0, 10))

    def test_moments_beyond_the_largest(self):
        far = 10 ** 12 + 5
        self.assertIsNone(broken(Jar(2, 1), [(far, 2), (far + 2, 2)]))
        self.assertEqual(broken(Jar(2, 1), [(far, 2), (far + 1, 2)]), (far, far + 1))

    def test_tuples_may_be_handed_in_and_nothing_is_changed(self):
        rows = [(0, 2), (1, 2), (1, 2), (8, 1)]
        for bound in (Jar(3, 1), Window(3, 2), Jar(10, 1)):
            row = list(rows)
            told = broken(bound, row)
            self.assertEqual(row, rows)
            self.assertEqual(broken(bound, tuple(rows)), told)
            self.assertEqual(broken(bound, row), told)

    def test_the_answer_is_a_pair(self):
        told = broken(Jar(1, 0), [(3, 2)])
        self.assertIs(type(told), tuple)
        self.assertEqual(len(told), 2)


class AgainstThePlainGoingThrough(unittest.TestCase):
    def hold(self, told, row):
        self.assertEqual(broken(plain.made(told), row), plain.broken(told, row), (told, row))

    def test_all_small_rows(self):
        for told in plain.small_bounds(3):
            for many in range(4):
                for row in all_small_rows(many):
                    self.hold(told, row)

    def test_none_just_where_the_row_keeps_the_bound(self):
        chance = random.Random(3)
        for _ in range(1500):
            told = plain.small_bound(chance)
            row = plain.small_row(chance, chance.randint(0, 5))
            self.assertEqual(broken(plain.made(told), row) is None, plain.keeps(told, row), (told, row))

    def test_rows_of_small_numbers(self):
        chance = random.Random(4)
        for _ in range(6000):
            self.hold(plain.small_bound(chance), plain.small_row(chance, chance.randint(0, 12)))

    def test_rows_of_large_numbers(self):
        chance = random.Random(5)
        for _ in range(3000):
            told = plain.large_bound(chance)
            self.hold(told, plain.large_row(chance, chance.randint(0, 12)))
            self.hold(told, plain.near_row(chance, told, chance.randint(0, 12)))

    def test_rows_of_two_hundred(self):
        chance = random.Random(6)
        for _ in range(25):
            for told in (plain.small_bound(chance), plain.large_bound(chance)):
                self.hold(told, plain.near_row(chance, told, 200))
            self.hold(("jar", chance.randint(1, 300), 3), plain.small_row(chance, 200))
            self.hold(("window", chance.randint(1, 300), 50), plain.small_row(chance, 200))


class LongRows(unittest.TestCase):
    def test_a_row_of_many_visits(self):
        row = [(k // 2, 1) for k in range(100000)]
        last = row[-1][0]
        for bound in (Jar(2, 2), Window(200, 100), Window(100000, 10 ** 12)):
            self.assertIsNone(broken(bound, row))
            self.assertEqual(broken(bound, [*row, (last, 1)])[1], last)
        self.assertEqual(broken(Jar(2, 2), [*row, (last, 1)]), (0, last))
        self.assertEqual(broken(Window(200, 100), [*row, (last, 1)]), (last - 99, last))


if __name__ == "__main__":
    unittest.main()
