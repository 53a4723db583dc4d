"""Points 1 and 6 to 9: the gate, and the promise for rows of whatever length."""

import itertools
import random
import unittest

from turnstile.bounds import Jar, Window
from turnstile.errors import Late, NoBound, NoCost, NoMoment, NoName
from turnstile.gate import Gate
from turnstile.stretches import broken
from tests import plain

NAMES = ("a", "ann", "bob", "zz", "abcdefgh")
NO_NAMES = (
    "", "abcdefghi", "a" * 1000, "Bob", "bOb", "BOB", "bob1", "1", "b b", " bob", "bob ", "b-b", "b_b", "`", "{",
    "a`", "a{", "bob\n", "\n", "~", None, 0, 1, True, b"bob", ["b"], ("b", "o"), {}, object(),
)


def gate_of(own, common):
    return Gate([plain.made(told) for told in own], [plain.made(told) for told in common])


class Examples(unittest.TestCase):
    def test_open_and_shut_by_an_own_bound(self):
        gate = Gate([Jar(5, 2), Window(6, 10)])
        self.assertEqual(gate.visit("bob", 0, 5), ("open",))
        self.assertEqual(gate.visit("bob", 0, 1), ("shut", "own", 0, 1))
        self.assertEqual(gate.visit("bob", 1, 1), ("open",))
        self.assertEqual(gate.visit("bob", 4, 1), ("shut", "own", 1, 6))
        self.assertEqual(gate.visit("bob", 10, 1), ("open",))

    def test_each_name_has_own_bounds_by_itself(self):
        gate = Gate([Window(5, 10)])
        for name in NAMES:
            self.assertEqual(gate.visit(name, 3, 5), ("open",))
        for name in NAMES:
            self.assertEqual(gate.visit(name, 3, 1), ("shut", "own", 0, 10))
        self.assertEqual(gate.names(), sorted(NAMES))

    def test_common_bounds_are_for_all_names_together(self):
        gate = Gate([], [Jar(100, 0), Window(5, 10)])
        self.assertEqual(gate.visit("ann", 0, 3), ("open",))
        self.assertEqual(gate.visit("bob", 0, 2), ("open",))
        self.assertEqual(gate.visit("cat", 2, 1), ("shut", "common", 1, 8))
        self.assertEqual(gate.visit("cat", 10, 5), ("open",))
        self.assertEqual(gate.visit("ann", 20, 5), ("open",))
        self.assertEqual(gate.visit("ann", 30, 86), ("shut", "common", 0, None))

    def test_own_bounds_go_ahead_of_common_ones(self):
        gate = Gate([Window(9, 2), Window(5, 4)], [Window(5, 30)])
        gate.visit("ann", 0, 5)
        self.assertEqual(gate.ask("ann", 0, 1), ("shut", "own", 1, 30))
        self.assertEqual(gate.ask("bob", 0, 1), ("shut", "common", 0, 30))
        self.assertEqual(gate.ask("ann", 4, 1), ("shut", "common", 0, 26))
        self.assertEqual(gate.ask("ann", 0, 9), ("shut", "own", 0, None))
        self.assertEqual(gate.ask("ann", 0, 5), ("shut", "own", 0, 30))

    def test_the_wait_is_that_of_the_slowest_bound(self):
        own = [Window(5, 3), Window(5, 100), Jar(5, 1)]
        gate = Gate(own, [Window(5, 50)])
        gate.visit("bob", 7, 5)
        self.assertEqual(gate.ask("bob", 8, 1), ("shut", "own", 0, 99))
        self.assertEqual(gate.ask("bob", 106, 1), ("shut", "own", 1, 1))
        self.assertEqual(gate.ask("bob", 107, 5), ("open",))

    def test_a_bound_that_is_kept_now_can_be_the_one_that_never_is(self):
        gate = Gate([Window(3, 5)], [Jar(10, 0), Window(9, 7)])
        gate.visit("bob", 0, 3)
        self.assertEqual(gate.ask("bob", 0, 1), ("shut", "own", 0, 5))
        self.assertEqual(gate.ask("bob", 0, 4), ("shut", "own", 0, None))
        gate.visit("ann", 0, 3)
        gate.visit("cat", 0, 3)
        self.assertEqual(gate.ask("bob", 0, 1), ("shut", "own", 0, 7))
        self.assertEqual(gate.ask("bob", 0, 2), ("shut", "own", 0, None))

    def test_waits_beyond_the_largest_moment(self):
        gate = Gate([Window(1, 10 ** 12)], [Jar(10 ** 9, 1)])
        last = 10 ** 12
        self.assertEqual(gate.visit("bob", last, 1), ("open",))
        self.assertEqual(gate.ask("bob", last, 1), ("shut", "own", 0, last))
        self.assertEqual(gate.visit("ann", last, 1), ("open",))
        self.assertEqual(gate.ask("cat", last, 10 ** 9), ("shut", "own", 0, None))
        gate = Gate([], [Jar(10 ** 9, 1)])
        gate.visit("bob", last, 10 ** 9)
        self.assertEqual(gate.ask("ann", last, 10 ** 9), ("shut", "common", 0, 10 ** 9))

    def test_without_bounds_all_is_open(self):
        for gate in (Gate([]), Gate([], None), Gate([], []), Gate((), ()), Gate(own=[], common=[])):
            for name in ("bob", "ann", "bob"):
                self.assertEqual(gate.visit(name, 5, 10 ** 9), ("open",))
            self.assertEqual((gate.names(), gate.kept()), (["ann", "bob"], 0))

    def test_common_left_out(self):
        for gate in (Gate([Jar(3, 1)]), Gate([Jar(3, 1)], None), Gate(own=[Jar(3, 1)])):
            self.assertEqual(gate.visit("bob", 0, 3), ("open",))
            self.assertEqual(gate.visit("ann", 0, 3), ("open",))
            self.assertEqual(gate.visit("bob", 1, 3), ("shut", "own", 0, 2))

    def test_the_least_and_the_largest_numbers(self):
        for moment, cost in itertools.product((0, 10 ** 12), (1, 10 ** 9)):
            gate = Gate([Jar(10 ** 9, 0), Window(10 ** 9, 1)])
            self.assertEqual(gate.ask("a", moment, cost), ("open",))
            self.assertEqual(gate.visit("abcdefgh", moment, cost), ("open",))

    def test_one_bound_may_stand_in_both_lists(self):
        bound = Window(5, 10)
        gate = Gate([bound, bound], [bound])
        self.assertEqual(gate.visit("bob", 0, 3), ("open",))
        self.assertEqual(gate.visit("ann", 0, 3), ("shut", "common", 0, 10))
        self.assertEqual(gate.visit("ann", 0, 2), ("open",))
        self.assertEqual(gate.kept(), 6)
        self.assertEqual(Gate([bound], [bound]).ask("bob", 0, 5), ("open",))

    def test_what_is_told_is_of_the_told_kinds(self):
        gate = Gate([Jar(5, 1)])
        self.assertIs(type(gate.ask("bob", 0, 5)), tuple)
        gate.visit("bob", 0, 5)
        told = gate.ask("bob", 0, 5)
        self.assertEqual([type(part) for part in told], [str, str, int, int])
        self.assertIs(type(told), tuple)


class NamesAndKept(unittest.TestCase):
    def test_names_rise_and_only_those_of_whom_somebody_was_let_by(self):
        gate = Gate([Window(5, 10)], [Window(12, 10)])
        self.assertEqual(gate.names(), [])
        gate.ask("zoe", 0, 1)
        gate.visit("yan", 0, 6)
        self.assertEqual(gate.names(), [])
        gate.visit("zoe", 0, 5)
        self.assertEqual(gate.names(), ["zoe"])
        for name in ("b", "ab", "aa"):
            gate.visit(name, 0, 1)
        self.assertEqual(gate.names(), ["aa", "ab", "b", "zoe"])
        gate.visit("mia", 0, 5)
        self.assertEqual(gate.names(), ["aa", "ab", "b", "zoe"])
        gate.visit("b", 10 ** 12, 1)
        self.assertEqual(gate.names(), ["aa", "ab", "b", "zoe"])

    def test_the_told_names_are_the_askers_own(self):
        gate = Gate([])
        gate.visit("bob", 0, 1)
        gate.names().append("ann")
        gate.names().clear()
        self.assertEqual(gate.names(), ["bob"])

    def test_each_meters_visits_are_counted(self):
        gate = Gate([Window(9, 10), Jar(9, 1), Window(9, 3)], [Window(99, 5)])
        self.assertEqual(gate.kept(), 0)
        kept = []
        for name, moment in (("ann", 0), ("bob", 0), ("ann", 2), ("ann", 3), ("bob", 9), ("bob", 10)):
            self.assertEqual(gate.visit(name, moment, 1), ("open",))
            kept.append(gate.kept())
        self.assertEqual(kept, [3, 6, 9, 11, 9, 11])

    def test_who_is_shut_out_or_asks_is_not_kept(self):
        gate = Gate([Window(1, 10)], [Window(5, 10)])
        gate.visit("bob", 0, 1)
        for name in ("bob", "ann"):
            gate.ask(name, 5, 1)
            gate.visit(name, 5, 2)
        self.assertEqual(gate.kept(), 2)

    def test_jars_keep_none(self):
        gate = Gate([Jar(10 ** 15, 0)] * 4, [Jar(10 ** 15, 10 ** 9)] * 4)
        for moment in range(100):
            gate.visit(NAMES[moment % 5], moment, 1)
        self.assertEqual(gate.kept(), 0)


class HandedIn(unittest.TestCase):
    def test_lists_stay_and_may_be_changed_behind_the_call(self):
        own = [Jar(5, 1)]
        common = [Window(7, 9)]
        kept = (list(own), list(common))
        gate = Gate(own, common)
        gate.visit("bob", 0, 5)
        self.assertEqual((own, common), kept)
        own.append(Window(1, 10 ** 12))
        common[0] = Jar(1, 0)
        own[0] = None
        self.assertEqual(gate.visit("ann", 0, 2), ("open",))
        self.assertEqual(gate.ask("cat", 0, 1), ("shut", "common", 0, 9))
        self.assertEqual(gate.ask("bob", 9, 5), ("open",))
        own.clear()
        common.clear()
        self.assertEqual(gate.ask("new", 9, 6), ("shut", "own", 0, None))
        self.assertEqual(gate.ask("new", 1, 5), ("shut", "common", 0, 8))

    def test_tuples_may_be_handed_in(self):
        gate = Gate((Jar(5, 1),), (Window(7, 9),))
        self.assertEqual(gate.visit("bob", 0, 5), ("open",))
        self.assertEqual(gate.visit("bob", 0, 1), ("shut", "own", 0, 1))
        self.assertEqual(gate.visit("ann", 0, 3), ("shut", "common", 0, 9))

    def test_gates_of_the_same_bounds_have_nothing_in_common(self):
        bounds = [Window(5, 10)]
        first = Gate(bounds, bounds)
        other = Gate(bounds, bounds)
        first.visit("bob", 5, 5)
        self.assertEqual(other.visit("bob", 0, 5), ("open",))
        self.assertEqual(first.ask("bob", 5, 5), ("shut", "own", 0, 10))


class Refusals(unittest.TestCase):
    def assert_refused(self, gate, error, *visit):
        """Both refuse it, and neither changes anything."""
        before = plain.state(gate)
        for deed in (gate.ask, gate.visit):
            with self.assertRaises(error, msg=visit) as caught:
                deed(*visit)
            self.assertIs(type(caught.exception), error, visit)
            self.assertEqual(plain.state(gate), before)

    def test_of_bounds(self):
        good = [Jar(5, 1), Window(5, 1), Jar(5, 0), Window(5, 2)]
        Gate(good, good)
        wrong = [[*good, Jar(1, 1)], [*good, None], [None] * 5, [Jar(1, 1)] * 100]
        wrong += [[bound] for bound in plain.NO_BOUNDS]
        wrong += [[*good[:k], bound] for k, bound in enumerate((None, 1, "jar", [1, 1]))]
        for bounds in wrong:
            for kind in (list, tuple):
                for lists in ((kind(bounds),), (kind(bounds), []), ([], kind(bounds)), (good, kind(bounds))):
                    with self.assertRaises(NoBound, msg=lists):
                        Gate(*lists)

    def test_of_each_wrong_argument(self):
        gate = Gate([Jar(5, 1)], [Window(9, 9)])
        for _ in range(2):
            for name in NO_NAMES:
                self.assert_refused(gate, NoName, name, 7, 1)
            for moment in plain.NO_MOMENTS:
                self.assert_refused(gate, NoMoment, "bob", moment, 1)
            for cost in plain.NO_COSTS:
                self.assert_refused(gate, NoCost, "bob", 7, cost)
            gate.visit("bob", 7, 3)

    def test_of_one_who_is_late(self):
        gate = Gate([Window(5, 9)], [Window(9, 9)])
        gate.ask("bob", 100, 5)
        gate.visit("bob", 100, 6)
        self.assertEqual(gate.visit("bob", 7, 5), ("open",))
        for name in ("bob", "ann"):
            for moment in (0, 6):
                self.assert_refused(gate, Late, name, moment, 1)
        self.assertEqual(gate.visit("ann", 7, 1), ("open",))
        self.assertEqual(gate.visit("ann", 8, 1), ("open",))
        self.assert_refused(gate, Late, "bob", 7, 1)
        gate.visit("cat", 9, 9)
        self.assertEqual(gate.ask("bob", 8, 5), ("shut", "own", 0, 8))

    def test_their_order(self):
        gate = Gate([], [])
        gate.visit("bob", 7, 1)
        for moment in (*plain.NO_MOMENTS, 6, 7):
            for cost in (*plain.NO_COSTS, 1):
                self.assert_refused(gate, NoName, "Bob", moment, cost)
        for moment in plain.NO_MOMENTS:
            for cost in (*plain.NO_COSTS, 1):
                self.assert_refused(gate, NoMoment, "bob", moment, cost)
        for cost in (*plain.NO_COSTS, 1):
            self.assert_refused(gate, Late, "bob", 6, cost)
        for cost in plain.NO_COSTS:
            self.assert_refused(gate, NoCost, "bob", 7, cost)

    def test_refused_ahead_of_the_first_one(self):
        gate = Gate([Jar(1, 0)])
        self.assert_refused(gate, NoCost, "bob", 10 ** 12, 0)
        self.assert_refused(gate, NoName, "", 10 ** 12, 1)
        self.assertEqual((gate.names(), gate.kept()), ([], 0))
        self.assertEqual(gate.visit("bob", 0, 1), ("open",))


class AgainstThePlainGoingThrough(unittest.TestCase):
    def hold_wait(self, gate, name, moment, cost, wait):
        """Point 8: open at the wait's end and later, shut one moment ahead of that."""
        if wait is None:
            words = {0: "shut", 1: "shut", 10 ** 12 - moment: "shut"}
        else:
            self.assertGreater(wait, 0)
            words = {wait - 1: "shut", wait: "open", wait + 1: "open"}
        for more, word in words.items():
            if moment + more <= 10 ** 12:
                self.assertEqual(gate.ask(name, moment + more, cost)[0], word, (name, moment, cost, wait))

    def run_row(self, chance, own, common, row):
        """Asks and visits by random names; at times one waits as long as it was told."""
        gate = gate_of(own, common)
        came = []
        late = 0
        names = NAMES[:chance.randint(1, 5)]
        for k, (moment, cost) in enumerate(row):
            name = chance.choice(names)
            moment = min(10 ** 12, moment + late)
            told = plain.gate_answer(own, common, came, name, moment, cost)
            about = (own, common, came, name, moment, cost)
            self.assertEqual(gate.ask(name, moment, cost), told, about)
            if told[0] == "shut":
                self.hold_wait(gate, name, moment, cost, told[3])
                if k % 3 == 0 and told[3] is not None and moment + told[3] <= 10 ** 12:
                    late += told[3]
                    moment += told[3]
                    told = ("open",)
            self.assertEqual(gate.visit(name, moment, cost), told, about)
            if told[0] == "open":
                came.append((name, moment, cost))
            self.hold_rest(gate, own, common, came)
        return came

    def hold_rest(self, gate, own, common, came):
        names = sorted({name for name, _, _ in came})
        self.assertEqual(gate.names(), names)
        most = sum(plain.in_reach(told, plain.of(came, name)) for told in own for name in names)
        most += sum(plain.in_reach(told, plain.of_all(came)) for told in common)
        self.assertLessEqual(gate.kept(), most)

    def hold_promise(self, own, common, came):
        for told in own:
            for name in NAMES:
                self.assertIsNone(plain.broken(told, plain.of(came, name)))
        for told in common:
            self.assertIsNone(plain.broken(told, plain.of_all(came)))

    def run_rows(self, seed, many, visits):
        chance = random.Random(seed)
        let_by = 0
        for _ in range(many):
            own, row = visits(chance, chance.randint(1, 25))
            common = visits(chance, 1)[0] if chance.random() < 0.6 else []
            came = self.run_row(chance, own, common, row)
            let_by += len(came)
            self.hold_promise(own, common, came)
        self.assertGreater(let_by, many)

    def test_rows_of_small_numbers(self):
        self.run_rows(21, 500, plain.small_visits)

    def test_rows_of_large_numbers(self):
        self.run_rows(22, 200, plain.large_visits)

    def test_rows_near_to_all_bounds(self):
        chance = random.Random(23)
        for _ in range(300):
            bounds, row = plain.near_visits(chance, 20)
            cut = chance.randint(0, len(bounds))
            self.hold_promise(bounds[:cut], bounds[cut:], self.run_row(chance, bounds[:cut], bounds[cut:], row))

    def test_waits_moment_by_moment(self):
        chance = random.Random(24)
        for _ in range(300):
            own, row = plain.small_visits(chance, 8)
            common = plain.any_bounds(chance, plain.roomy_bound)
            gate = gate_of(own, common)
            for moment, cost in row:
                name = chance.choice(NAMES[:2])
                words = [gate.ask(name, moment + more, cost)[0] for more in range(90)]
                self.assertEqual(words, sorted(words, reverse=True))
                told = gate.visit(name, moment, cost)
                if told[0] == "shut":
                    self.assertEqual(told[3], words.index("open") if "open" in words else None)

    def test_asking_changes_nothing(self):
        chance = random.Random(25)
        for _ in range(200):
            own, row = plain.small_visits(chance, 10)
            common = plain.any_bounds(chance, plain.roomy_bound)
            asked = gate_of(own, common)
            alone = gate_of(own, common)
            for moment, cost in row:
                before = plain.state(asked)
                for more, name in itertools.product((0, 3, 10 ** 11), NAMES):
                    asked.ask(name, moment + more, chance.randint(1, 20))
                asked.names()
                asked.kept()
                self.assertEqual(plain.state(asked), before)
                name = chance.choice(NAMES)
                self.assertEqual(asked.visit(name, moment, cost), alone.visit(name, moment, cost))

    def test_who_is_shut_out_changes_nothing(self):
        chance = random.Random(26)
        for _ in range(200):
            own, row = plain.small_visits(chance, 10)
            gate = gate_of(own, own)
            for moment, cost in row:
                before = plain.state(gate)
                if gate.visit(chance.choice(NAMES), moment, cost)[0] == "shut":
                    self.assertEqual(plain.state(gate), before)


class LongRows(unittest.TestCase):
    """The promise holds for rows of whatever length, and what a gate keeps does not grow with them."""

    def held(self, told):
        """How many things lists have in all that an object holds."""
        if isinstance(told, dict):
            return sum(self.held(value) for value in told.values())
        if isinstance(told, (list, tuple)):
            return len(told) + sum(self.held(value) for value in told)
        return 0

    def test_a_row_of_many_visits(self):
        chance = random.Random(27)
        own = [Jar(30, 1), Window(40, 25)]
        common = [Window(90, 30), Jar(200, 3), Window(12, 2)]
        gate = Gate(own, common)
        came = []
        shut = 0
        for k in range(20000):
            name = chance.choice(NAMES)
            cost = chance.randint(1, 9)
            if gate.visit(name, k // 3, cost) == ("open",):
                came.append((name, k // 3, cost))
            else:
                shut += 1
            self.assertLessEqual(gate.kept(), 2 * 90 * 3)
        self.assertLess(self.held(plain.state(gate)), 10 * 90 * 3)
        self.assertGreater(len(came), 2000)
        self.assertGreater(shut, 2000)
        for bound in own:
            for name in NAMES:
                self.assertIsNone(broken(bound, plain.of(came, name)))
        for bound in common:
            self.assertIsNone(broken(bound, plain.of_all(came)))


if __name__ == "__main__":
    unittest.main()
