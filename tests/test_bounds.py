"""Points 1, 2 and 4: the bounds, their limits, their fields and their room."""

import random
import unittest

from turnstile.bounds import Bound, Jar, Window
from turnstile.errors import NoBound
from turnstile.meters import JarMeter, Meter, WindowMeter
from tests import plain


class Watched:
    """Tells whether it was looked at: any comparison is marked."""

    def __init__(self):
        self.seen = False

    def __le__(self, other):
        self.seen = True
        return True

    __lt__ = __ge__ = __gt__ = __le__


class Limits(unittest.TestCase):
    def assert_none(self, kind, *numbers):
        with self.assertRaises(NoBound, msg=(kind, numbers)):
            kind(*numbers)

    def test_the_least_and_the_largest(self):
        for size in (1, 2, 10 ** 15 - 1, 10 ** 15):
            for flow in (0, 1, 10 ** 9 - 1, 10 ** 9):
                jar = Jar(size, flow)
                self.assertEqual((jar.size, jar.flow), (size, flow))
        for most in (1, 2, 10 ** 15 - 1, 10 ** 15):
            for span in (1, 2, 10 ** 12 - 1, 10 ** 12):
                window = Window(most, span)
                self.assertEqual((window.most, window.span), (most, span))

    def test_beyond_them(self):
        for size in (0, -1, 10 ** 15 + 1, 10 ** 30):
            self.assert_none(Jar, size, 1)
        for flow in (-1, 10 ** 9 + 1, 10 ** 30):
            self.assert_none(Jar, 1, flow)
        for most in (0, -1, 10 ** 15 + 1, 10 ** 30):
            self.assert_none(Window, most, 1)
        for span in (0, -1, 10 ** 12 + 1, 10 ** 30):
            self.assert_none(Window, 1, span)

    def test_what_is_no_number(self):
        for value in plain.NO_NUMBERS:
            for kind in (Jar, Window):
                self.assert_none(kind, value, 1)
                self.assert_none(kind, 1, value)
                self.assert_none(kind, value, value)

    def test_the_first_number_is_looked_at_first(self):
        for kind in (Jar, Window):
            for wrong in (0, True, "1"):
                second = Watched()
                self.assert_none(kind, wrong, second)
                self.assertFalse(second.seen)
        for kind, words in ((Jar, ("size", "flow")), (Window, ("most", "span"))):
            for numbers, word in (((0, -1), words[0]), ((1, -1), words[1])):
                with self.assertRaises(NoBound) as caught:
                    kind(*numbers)
                self.assertIn(word, str(caught.exception))

    def test_the_arguments_have_names(self):
        self.assertEqual(Jar(size=3, flow=0).size, 3)
        self.assertEqual(Window(most=3, span=1).most, 3)


class Fields(unittest.TestCase):
    def test_they_are_only_read(self):
        for bound, fields in ((Jar(5, 2), ("size", "flow")), (Window(5, 2), ("most", "span"))):
            for field in fields:
                with self.assertRaises(AttributeError):
                    setattr(bound, field, 1)
            self.assertEqual([getattr(bound, field) for field in fields], [5, 2])

    def test_classes(self):
        for bound in (Jar(1, 0), Window(1, 1)):
            self.assertIsInstance(bound, Bound)
        self.assertNotIsInstance(Jar(1, 0), Window)
        self.assertNotIsInstance(Window(1, 1), Jar)


class Room(unittest.TestCase):
    def test_of_a_jar(self):
        jar = Jar(5, 2)
        self.assertEqual([jar.room(7, 7), jar.room(7, 8), jar.room(7, 10)], [5, 7, 11])
        self.assertEqual([Jar(5, 0).room(0, 0), Jar(5, 0).room(0, 10 ** 12)], [5, 5])

    def test_of_a_window(self):
        window = Window(5, 3)
        self.assertEqual([window.room(7, 7), window.room(7, 9)], [5, 5])
        self.assertIsNone(window.room(7, 10))
        self.assertIsNone(window.room(7, 11))
        self.assertEqual(Window(5, 1).room(0, 0), 5)
        self.assertIsNone(Window(5, 1).room(0, 1))

    def test_of_the_largest_numbers(self):
        self.assertEqual(Jar(10 ** 15, 10 ** 9).room(0, 10 ** 12), 10 ** 15 + 10 ** 21)
        self.assertEqual(Window(10 ** 15, 10 ** 12).room(0, 10 ** 12 - 1), 10 ** 15)
        self.assertIsNone(Window(10 ** 15, 10 ** 12).room(0, 10 ** 12))

    def test_of_any_whole_numbers(self):
        self.assertEqual(Jar(5, 2).room(-7, -7), 5)
        self.assertEqual(Jar(5, 2).room(-10 ** 30, 10 ** 30), 5 + 4 * 10 ** 30)
        self.assertEqual(Window(5, 3).room(-1, 1), 5)
        self.assertIsNone(Window(5, 3).room(-2, 1))
        self.assertEqual(Window(5, 3).room(10 ** 30, 10 ** 30 + 2), 5)

    def test_against_the_document(self):
        chance = random.Random(2)
        for _ in range(3000):
            told = plain.large_bound(chance) if chance.random() < 0.5 else plain.small_bound(chance)
            first = chance.choice([-1, 1]) * chance.randint(0, 10 ** chance.randint(0, 20))
            last = first + chance.choice([0, told[2], max(0, told[2] - 1), chance.randint(0, 10 ** 20)])
            self.assertEqual(plain.made(told).room(first, last), plain.room(told, first, last))


class Meters(unittest.TestCase):
    def test_kinds(self):
        self.assertIsInstance(Jar(1, 0).meter(), JarMeter)
        self.assertIsInstance(Window(1, 1).meter(), WindowMeter)
        self.assertIsInstance(Jar(1, 0).meter(), Meter)
        self.assertIsInstance(Window(1, 1).meter(), Meter)

    def test_each_is_new(self):
        for bound in (Jar(3, 0), Window(3, 5)):
            ahead = bound.meter()
            ahead.take(0, 3)
            other = bound.meter()
            self.assertTrue(other.can(0, 3))
            self.assertFalse(ahead.can(0, 1))
            other.take(0, 1)
            self.assertFalse(ahead.can(0, 1))
            self.assertTrue(other.can(0, 2))
            self.assertEqual(bound.room(0, 0), 3)


if __name__ == "__main__":
    unittest.main()
