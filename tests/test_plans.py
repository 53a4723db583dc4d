"""Points 1, 10 and 11: plans, whose moments are the earliest of all rows that keep the bounds."""

import itertools
import random
import unittest

from turnstile.bounds import Jar, Window
from turnstile.errors import Never, NoBound, NoCost, NoMoment
from turnstile.plans import plan
from turnstile.stretches import broken
from tests import plain


def planned_plainly(bounds, moment, costs):
    """Point 10: each moment the least one behind those ahead; or the place of the cost that never can."""
    row = []
    at = moment
    for place, cost in enumerate(costs):
        wait = plain.wait_by_all([(told, row) for told in bounds], at, cost)
        if wait is None:
            return ("never", place)
        at += wait
        row.append((at, cost))
    return ("plan", [at for at, _ in row])


def planned(bounds, moment, costs):
    """What the program tells of the same."""
    try:
        return ("plan", plan([plain.made(told) for told in bounds], moment, costs))
    except Never as refusal:
        return ("never", refusal.place)


def keeps_all(bounds, moments, costs):
    return plain.first_broken(bounds, list(zip(moments, costs))) is None


class Examples(unittest.TestCase):
    def test_of_a_jar(self):
        self.assertEqual(plan([Jar(5, 2)], 3, [5, 1, 1, 5, 2]), [3, 4, 4, 7, 8])
        self.assertEqual(plan([Jar(5, 2)], 0, [1, 1, 1, 1, 1, 1]), [0, 0, 0, 0, 0, 1])

    def test_of_a_window(self):
        self.assertEqual(plan([Window(5, 4)], 3, [3, 2, 1, 4, 5]), [3, 3, 7, 7, 11])
        self.assertEqual(plan([Window(5, 1)], 0, [5, 5, 5]), [0, 1, 2])

    def test_of_several(self):
        bounds = [Jar(9, 3), Window(12, 10), Window(9, 2)]
        self.assertEqual(plan(bounds, 0, [9, 3, 9, 3]), [0, 2, 10, 12])
        self.assertEqual(plan(bounds[::-1], 0, [9, 3, 9, 3]), [0, 2, 10, 12])

    def test_no_bounds_or_no_costs(self):
        self.assertEqual(plan([], 7, [1, 10 ** 9, 1]), [7, 7, 7])
        self.assertEqual(plan([], 7, []), [])
        self.assertEqual(plan([Jar(1, 0)], 10 ** 12, []), [])
        self.assertEqual(plan((), 0, ()), [])

    def test_moments_beyond_the_largest(self):
        last = 10 ** 12
        self.assertEqual(plan([Window(1, last)], last, [1, 1, 1]), [last, 2 * last, 3 * last])
        self.assertEqual(plan([Jar(10 ** 9, 1)], last, [10 ** 9] * 3), [last, last + 10 ** 9, last + 2 * 10 ** 9])
        moments = plan([Window(10 ** 9, last)], last, [10 ** 9] * 200)
        self.assertEqual(moments, [last * k for k in range(1, 201)])

    def test_the_least_and_the_largest_numbers(self):
        for moment in (0, 10 ** 12):
            self.assertEqual(plan([Jar(10 ** 9, 0)], moment, [10 ** 9]), [moment])
            self.assertEqual(plan([Window(10 ** 9, 10 ** 12)], moment, [10 ** 9 - 1, 1]), [moment, moment])
        self.assertEqual(plan([Jar(1, 10 ** 9)], 0, [1, 1]), [0, 1])

    def test_never_has_the_place_of_the_first_that_cannot(self):
        for bounds, costs, place in (
            ([Jar(5, 0)], [3, 2, 1, 6], 2),
            ([Jar(5, 0)], [6], 0),
            ([Jar(5, 9)], [5, 5, 6, 7], 2),
            ([Window(5, 9)], [5, 5, 5, 10 ** 9], 3),
            ([Jar(9, 1), Window(5, 1), Jar(7, 0)], [4, 3, 6], 2),
            ([Jar(9, 1), Window(5, 1), Jar(7, 0)], [6, 3, 6], 0),
        ):
            with self.assertRaises(Never) as caught:
                plan(bounds, 3, costs)
            self.assertEqual(caught.exception.place, place)
            self.assertIs(type(caught.exception.place), int)
        self.assertEqual(plan([Jar(5, 0)], 3, [3, 2]), [3, 3])

    def test_what_is_handed_in_stays(self):
        bounds = [Jar(5, 2), Window(9, 9)]
        costs = [5, 4, 3]
        kept = (list(bounds), list(costs))
        told = plan(bounds, 2, costs)
        self.assertEqual((bounds, costs), kept)
        self.assertEqual(plan(bounds, 2, costs), told)
        self.assertEqual(plan(tuple(bounds), 2, tuple(costs)), told)
        with self.assertRaises(Never):
            plan(bounds, 2, costs + [6])
        self.assertEqual((bounds, costs), kept)

    def test_what_is_told_is_the_askers_own(self):
        bounds = [Jar(5, 2)]
        told = plan(bounds, 2, [5, 2])
        self.assertIs(type(told), list)
        told.append(0)
        self.assertEqual(plan(bounds, 2, [5, 2]), [2, 3])
        self.assertIsNot(plan([], 0, []), plan([], 0, []))


class Refusals(unittest.TestCase):
    def assert_refused(self, error, *told):
        with self.assertRaises(error, msg=told) as caught:
            plan(*told)
        self.assertIs(type(caught.exception), error, told)

    def test_of_each_wrong_argument(self):
        good = [Jar(5, 1), Window(5, 1), Jar(5, 0), Window(5, 2)]
        self.assertEqual(plan(good, 0, [1]), [0])
        self.assert_refused(NoBound, [*good, Jar(1, 1)], 0, [1])
        for bound in plain.NO_BOUNDS:
            for bounds in ([bound], [*good[:3], bound], (bound,), [*good, bound]):
                self.assert_refused(NoBound, bounds, 0, [1])
        for moment in plain.NO_MOMENTS:
            self.assert_refused(NoMoment, good, moment, [1])
            self.assert_refused(NoMoment, [], moment, [])
        for cost in plain.NO_COSTS:
            for costs in ([cost], [1, 1, cost], [cost, 1], (1, cost), [1] * 199 + [cost]):
                self.assert_refused(NoCost, [Jar(10 ** 15, 0)], 0, costs)

    def test_their_order(self):
        for moment in (*plain.NO_MOMENTS, 0):
            for costs in ([], [1], [0], [6], [True]):
                self.assert_refused(NoBound, [Jar(5, 0), None], moment, costs)
                self.assert_refused(NoBound, [Jar(5, 0)] * 5, moment, costs)
        for moment in plain.NO_MOMENTS:
            for costs in ([], [1], [0], [6], [True]):
                self.assert_refused(NoMoment, [Jar(5, 0)], moment, costs)
        for cost in plain.NO_COSTS:
            self.assert_refused(NoCost, [Jar(5, 0)], 0, [6, cost])
            self.assert_refused(NoCost, [Jar(5, 0)], 0, [3, 3, 3, cost])
            self.assert_refused(NoCost, [Jar(5, 0)], 0, [cost, 6])
        self.assert_refused(Never, [Jar(5, 0)], 0, [6, 1])


class AgainstThePlainGoingThrough(unittest.TestCase):
    def hold(self, bounds, moment, costs):
        told = planned(bounds, moment, costs)
        about = (bounds, moment, costs)
        self.assertEqual(told, planned_plainly(bounds, moment, costs), about)
        if told[0] == "plan":
            self.assertEqual(len(told[1]), len(costs), about)
            self.assertEqual(sorted([moment, *told[1]]), [moment, *told[1]], about)
            self.assertTrue(keeps_all(bounds, told[1], costs), about)
        return told[0]

    def run_plans(self, seed, many, visits):
        chance = random.Random(seed)
        words = []
        for _ in range(many):
            bounds, row = visits(chance, chance.randint(0, 12))
            moment = row[0][0] if row else chance.randint(0, 9)
            words.append(self.hold(bounds, moment, [cost for _, cost in row]))
        for word in ("plan", "never"):
            self.assertGreater(words.count(word), many // 10)

    def test_of_small_numbers(self):
        self.run_plans(31, 800, plain.small_visits)

    def test_of_large_numbers(self):
        self.run_plans(32, 400, plain.large_visits)

    def test_near_to_all_bounds(self):
        self.run_plans(33, 400, plain.near_visits)

    def test_moment_by_moment(self):
        chance = random.Random(34)
        for _ in range(300):
            bounds, row = plain.small_visits(chance, 5)
            costs = [cost for _, cost in row]
            word, told = planned(bounds, row[0][0], costs)
            if word == "never":
                costs = costs[:told + 1]
                told = planned(bounds, row[0][0], costs[:told])[1] + [None]
            at = row[0][0]
            for k, found in enumerate(told):
                if found is not None:
                    self.assertTrue(keeps_all(bounds, told[:k + 1], costs))
                for less in range(at, at + 100 if found is None else found):
                    self.assertFalse(keeps_all(bounds, told[:k] + [less], costs))
                at = found

    def test_of_two_hundred(self):
        chance = random.Random(35)
        for bounds in (
            [("jar", 40, 2), ("window", 60, 30)],
            [("window", 9, 1), ("window", 30, 9), ("window", 99, 70), ("jar", 12, 1)],
            [("jar", 10 ** 15, 10 ** 9), ("window", 10 ** 9, 10 ** 12)],
        ):
            costs = [chance.randint(1, 9) for _ in range(200)]
            told = plan([plain.made(bound) for bound in bounds], 5, costs)
            row = list(zip(told, costs))
            for bound in bounds:
                self.assertIsNone(plain.broken(bound, row))
            ahead = 5
            for k, at in enumerate(told):
                if at > ahead:
                    less = [*row[:k], (at - 1, costs[k])]
                    self.assertTrue(any(broken(plain.made(bound), less) for bound in bounds))
                ahead = at


class Earliest(unittest.TestCase):
    """Point 11: in no other row of moments that keeps the bounds is any of them earlier."""

    def hold_all_rows(self, bounds, moment, costs, far):
        """Goes through all rows of moments up to far that rise or are alike."""
        word, told = planned(bounds, moment, costs)
        least = None
        for moments in itertools.combinations_with_replacement(range(moment, moment + far), len(costs)):
            if keeps_all(bounds, moments, costs):
                least = list(map(min, least, moments)) if least else list(moments)
        if word == "never":
            self.assertIsNone(least, (bounds, moment, costs))
        elif told[-1] < moment + far:
            self.assertEqual(least, told, (bounds, moment, costs))
        else:
            self.assertIsNone(least, (bounds, moment, costs))

    def test_of_up_to_four_costs(self):
        chance = random.Random(36)
        for _ in range(250):
            bounds, row = plain.small_visits(chance, chance.randint(1, 4))
            self.hold_all_rows(bounds, row[0][0], [cost for _, cost in row], 9)

    def test_all_small_bounds(self):
        for bounds in itertools.product(plain.small_bounds(2), repeat=2):
            for costs in itertools.product((1, 2), repeat=3):
                self.hold_all_rows(bounds, 1, costs, 6)


if __name__ == "__main__":
    unittest.main()
