"""The errors of the interface."""

import unittest

from turnstile import errors
from turnstile.errors import Broken, GateError, Never

OF_A_TEXT = ("NoBound", "NoMoment", "NoCost", "NoName", "NoPlace", "NoVisit", "Late", "Full", "BadRow")


class Errors(unittest.TestCase):
    def test_all_stand_straight_under_gate_error(self):
        self.assertEqual(GateError.__bases__, (ValueError,))
        for name in (*OF_A_TEXT, "Never", "Broken"):
            self.assertEqual(getattr(errors, name).__bases__, (GateError,), name)

    def test_those_of_a_text_tell_it(self):
        for name in ("GateError", *OF_A_TEXT):
            self.assertEqual(str(getattr(errors, name)("so it is")), "so it is")

    def test_never_has_its_place(self):
        self.assertEqual(Never(0).place, 0)
        self.assertEqual(Never(place=199).place, 199)
        self.assertIsInstance(str(Never(3)), str)

    def test_broken_has_k_and_stretch(self):
        refusal = Broken(3, (0, 10 ** 12))
        self.assertEqual((refusal.k, refusal.stretch), (3, (0, 10 ** 12)))
        refusal = Broken(k=0, stretch=(7, 7))
        self.assertEqual((refusal.k, refusal.stretch), (0, (7, 7)))
        self.assertIsInstance(str(refusal), str)


if __name__ == "__main__":
    unittest.main()
