"""Points 1, 12 and 13: the book."""

import itertools
import random
import unittest

from turnstile.books import Book
from turnstile.bounds import Jar, Window
from turnstile.errors import Broken, Full, NoBound, NoCost, NoMoment, NoPlace, NoVisit
from turnstile.stretches import broken
from tests import plain

FREE = [("jar", 10 ** 15, 0)]


def book_of(bounds, row=()):
    """A book of these bounds with these visits."""
    book = Book([plain.made(told) for told in bounds])
    for moment, cost in row:
        book.put(moment, cost)
    return book


class Model:
    """The book in the document's words, by all stretches."""

    def __init__(self, bounds):
        self.bounds = list(bounds)
        self.row = []

    def put(self, moment, cost):
        if len(self.row) == 40:
            return "Full"
        row = plain.with_visit(self.row, moment, cost)
        found = plain.first_broken(self.bounds, row)
        if found is None:
            self.row = row
        return found

    def drop(self, moment, cost):
        for k, visit in enumerate(self.row):
            if visit == (moment, cost):
                self.row = self.row[:k] + self.row[k + 1:]
                return None
        return "NoVisit"

    def change(self, k, told):
        if k not in range(len(self.bounds)):
            return "NoPlace"
        stretch = plain.broken(told, self.row)
        if stretch is not None:
            return (k, stretch)
        self.bounds[k] = told
        return None

    def earliest(self, moment, cost):
        return plain.earliest(self.bounds, self.row, moment, cost)


def refusal_of(deed, *told):
    """What a deed at a book is refused by: None, a name, or k and stretch."""
    try:
        deed(*told)
    except Broken as refusal:
        return (refusal.k, refusal.stretch)
    except (Full, NoVisit, NoPlace) as refusal:
        return type(refusal).__name__
    return None


class Examples(unittest.TestCase):
    def test_a_new_one_has_no_visits(self):
        self.assertEqual(Book([]).visits(), [])
        self.assertEqual(Book([Jar(1, 0)]).visits(), [])

    def test_visits_are_told_by_moments(self):
        book = Book([Jar(99, 1)])
        for moment, cost in ((7, 1), (3, 2), (10 ** 12, 3), (0, 4), (5, 5)):
            self.assertIsNone(book.put(moment, cost))
        self.assertEqual(book.visits(), [(0, 4), (3, 2), (5, 5), (7, 1), (10 ** 12, 3)])

    def test_visits_of_one_moment_are_told_as_they_were_put(self):
        book = Book([])
        for moment, cost in ((5, 3), (7, 9), (5, 1), (3, 8), (5, 2), (7, 1), (5, 3)):
            book.put(moment, cost)
        self.assertEqual(book.visits(), [(3, 8), (5, 3), (5, 1), (5, 2), (5, 3), (7, 9), (7, 1)])

    def test_the_first_such_visit_is_dropped(self):
        book = book_of([], [(5, 3), (5, 1), (5, 3), (4, 3), (6, 3)])
        self.assertIsNone(book.drop(5, 3))
        self.assertEqual(book.visits(), [(4, 3), (5, 1), (5, 3), (6, 3)])
        book.put(5, 1)
        book.drop(5, 1)
        self.assertEqual(book.visits(), [(4, 3), (5, 3), (5, 1), (6, 3)])
        for visit in ((5, 3), (5, 1), (6, 3), (4, 3)):
            book.drop(*visit)
        self.assertEqual(book.visits(), [])

    def test_what_is_dropped_gives_its_room_back(self):
        book = book_of([("window", 5, 10)], [(4, 5)])
        with self.assertRaises(Broken):
            book.put(0, 1)
        book.drop(4, 5)
        book.put(0, 5)
        self.assertEqual(book.visits(), [(0, 5)])

    def test_broken_tells_the_first_bound_and_its_first_stretch(self):
        bounds = [("jar", 20, 0), ("window", 6, 3), ("window", 5, 4), ("jar", 5, 1)]
        book = book_of(bounds, [(2, 2), (4, 3), (9, 5)])
        for visit, k, stretch in (
            ((3, 1), 2, (2, 4)),
            ((3, 2), 1, (2, 4)),
            ((8, 1), 2, (8, 9)),
            ((30, 11), 0, (2, 30)),
            ((30, 10), 1, (30, 30)),
            ((30, 6), 2, (30, 30)),
            ((10, 1), 2, (9, 10)),
            ((13, 5), 3, (9, 13)),
        ):
            self.assertEqual(refusal_of(book.put, *visit), (k, stretch), visit)
        self.assertEqual(book.visits(), [(2, 2), (4, 3), (9, 5)])

    def test_broken_is_of_the_row_with_the_visit(self):
        book = book_of([("window", 5, 10)], [(3, 2), (12, 3)])
        with self.assertRaises(Broken) as caught:
            book.put(5, 1)
        self.assertEqual((caught.exception.k, caught.exception.stretch), (0, (3, 12)))
        with self.assertRaises(Broken) as caught:
            book.put(1, 4)
        self.assertEqual((caught.exception.k, caught.exception.stretch), (0, (1, 3)))

    def test_change(self):
        book = book_of([("window", 5, 10), ("jar", 9, 0)], [(0, 5), (10, 4)])
        self.assertIsNone(book.change(0, Window(5, 5)))
        self.assertEqual(refusal_of(book.put, 3, 1), (0, (0, 3)))
        self.assertEqual(refusal_of(book.put, 6, 1), (1, (0, 10)))
        self.assertEqual(refusal_of(book.change, 1, Jar(8, 0)), (1, (0, 10)))
        self.assertEqual(refusal_of(book.change, 1, Window(4, 1)), (1, (0, 0)))
        self.assertEqual(refusal_of(book.put, 6, 1), (1, (0, 10)))
        self.assertIsNone(book.change(1, Jar(10, 0)))
        self.assertIsNone(book.put(6, 1))
        self.assertEqual(book.visits(), [(0, 5), (6, 1), (10, 4)])
        self.assertIsNone(book.change(1, Window(5, 3)))
        self.assertIsNone(book.put(10 ** 12, 5))

    def test_forty_visits(self):
        book = book_of(FREE, [(k, 1) for k in range(39)])
        book.put(0, 1)
        self.assertEqual(len(book.visits()), 40)
        for moment in (0, 50):
            self.assertEqual(refusal_of(book.put, moment, 1), "Full")
        book.drop(7, 1)
        book.put(9, 1)
        self.assertEqual(refusal_of(book.put, 9, 1), "Full")
        self.assertEqual(len(book.visits()), 40)


class Earliest(unittest.TestCase):
    def hold(self, book, moment, cost, told):
        self.assertEqual(book.earliest(moment, cost), told, (moment, cost))

    def test_of_one_without_bounds_or_visits(self):
        for moment in (0, 7, 10 ** 12):
            self.hold(Book([]), moment, 10 ** 9, moment)
            self.hold(book_of([], [(7, 1)] * 3), moment, 10 ** 9, moment)
            self.hold(Book([Jar(5, 0), Window(5, 10 ** 12)]), moment, 5, moment)
            self.hold(Book([Jar(5, 0)]), moment, 6, None)
            self.hold(Book([Jar(5, 10 ** 9)]), moment, 6, None)
            self.hold(Book([Window(5, 1)]), moment, 6, None)
            self.hold(Book([Jar(9, 1), Window(6, 1), Window(5, 1)]), moment, 6, None)

    def test_ahead_of_among_and_behind_the_visits(self):
        book = book_of([("window", 5, 3)], [(10, 5), (16, 3), (17, 2)])
        for cost, told in ((1, [(0, 0), (7, 7), (8, 13), (12, 13), (13, 13), (14, 14), (15, 19), (19, 19), (30, 30)]),
                           (3, [(7, 7), (8, 13), (13, 13), (14, 19), (18, 19)]),
                           (4, [(8, 13), (14, 20)])):
            for moment, at in told:
                self.hold(book, moment, cost, at)
        book = book_of([("jar", 5, 1)], [(10, 5), (20, 5)])
        self.hold(book, 0, 5, 0)
        self.hold(book, 5, 5, 5)
        self.hold(book, 6, 5, 15)
        self.hold(book, 9, 1, 9)
        self.hold(book, 9, 2, 12)
        self.hold(book, 16, 5, 25)
        self.hold(book, 16, 4, 16)
        self.hold(book, 18, 3, 23)

    def test_between_two_bounds_that_take_turns(self):
        book = book_of([("window", 5, 4), ("jar", 6, 1)], [(4, 3), (9, 3), (14, 3)])
        self.hold(book, 0, 3, 0)
        self.hold(book, 1, 3, 18)
        self.hold(book, 1, 2, 1)
        self.hold(book, 5, 3, 18)

    def test_without_flow_there_may_be_none(self):
        book = book_of([("jar", 9, 0)], [(10, 5), (20, 3)])
        for moment in (0, 10, 15, 20, 10 ** 12):
            self.hold(book, moment, 1, moment)
            self.hold(book, moment, 2, None)
        book = book_of([("jar", 9, 0), ("window", 8, 50)], [(10, 5), (20, 3)])
        self.hold(book, 0, 1, 60)
        self.hold(book, 0, 2, None)

    def test_beyond_the_largest_moment(self):
        last = 10 ** 12
        book = book_of([("window", 1, last)], [(last, 1)])
        self.hold(book, 0, 1, 0)
        self.hold(book, 1, 1, 2 * last)
        self.hold(book, last, 1, 2 * last)
        book = book_of([("jar", 10 ** 9, 1)], [(last, 10 ** 9), (0, 10 ** 9)])
        self.hold(book, last - 1, 10 ** 9, last + 10 ** 9)
        self.hold(book, 0, 10 ** 9, 10 ** 9)
        book = book_of([("window", 40 * 10 ** 9, last), ("jar", 10 ** 15, 1)], [(last, 10 ** 9)] * 40)
        self.hold(book, last, 1, 2 * last)
        self.hold(book, 1, 1, 2 * last)
        self.hold(book, 0, 1, 0)

    def test_great_spans_and_rooms(self):
        book = book_of([("window", 10 ** 15, 10 ** 12), ("jar", 10 ** 15, 10 ** 9)], [(5, 10 ** 9)] * 39)
        self.hold(book, 0, 10 ** 9, 0)
        book = book_of([("window", 10 ** 10, 10 ** 12)], [(5 * k, 10 ** 9) for k in range(10)])
        self.hold(book, 0, 1, 10 ** 12)
        self.hold(book, 0, 10 ** 9, 10 ** 12)
        self.hold(book, 10 ** 12, 10 ** 9, 10 ** 12)

    def test_of_a_full_book(self):
        book = book_of([("window", 2, 3)], [(k + k // 2 * 4, 1) for k in range(40)])
        self.assertEqual(len(book.visits()), 40)
        told = [book.earliest(moment, 1) for moment in range(20)]
        for moment, at in enumerate(told):
            row = book.visits()
            known = next(more for more in itertools.count(moment)
                         if plain.first_broken([("window", 2, 3)], plain.with_visit(row, more, 1)) is None)
            self.assertEqual(at, known)
            self.assertEqual(refusal_of(book.put, at, 1), "Full")

    def test_asking_changes_nothing(self):
        book = book_of([("window", 5, 3), ("jar", 9, 0)], [(10, 5), (16, 3)])
        before = plain.state(book)
        for moment, cost in itertools.product((0, 9, 10, 17, 10 ** 12), (1, 4, 10)):
            book.earliest(moment, cost)
        self.assertEqual(plain.state(book), before)


class HandedInAndTold(unittest.TestCase):
    def test_the_list_of_bounds_stays_and_may_be_changed(self):
        bounds = [Window(5, 10), Jar(9, 0)]
        kept = list(bounds)
        book = Book(bounds)
        other = Book(bounds)
        book.put(0, 5)
        book.change(0, Window(6, 10))
        self.assertEqual(bounds, kept)
        bounds[0] = Jar(1, 0)
        bounds.append(Window(1, 10 ** 12))
        book.put(1, 1)
        bounds.clear()
        self.assertEqual(refusal_of(book.put, 2, 1), (0, (0, 2)))
        self.assertEqual(refusal_of(book.change, 2, Jar(9, 9)), "NoPlace")
        other.put(0, 5)
        self.assertEqual(refusal_of(other.put, 1, 1), (0, (0, 1)))

    def test_tuples_may_be_handed_in(self):
        book = Book((Window(5, 10), Jar(9, 0)))
        book.put(0, 5)
        book.change(1, Jar(6, 0))
        self.assertEqual(refusal_of(book.put, 10, 2), (1, (0, 10)))

    def test_the_told_visits_are_the_askers_own(self):
        book = book_of([("window", 5, 10)], [(3, 2), (12, 3)])
        told = book.visits()
        self.assertIs(type(told), list)
        self.assertEqual([type(visit) for visit in told], [tuple, tuple])
        told.append((4, 4))
        told[0] = None
        self.assertEqual(book.visits(), [(3, 2), (12, 3)])
        held = book.visits()
        book.drop(3, 2)
        book.put(0, 1)
        self.assertEqual(held, [(3, 2), (12, 3)])
        held.clear()
        self.assertEqual(book.visits(), [(0, 1), (12, 3)])
        empty = Book([])
        empty.visits().append((1, 1))
        self.assertEqual(empty.visits(), [])

    def test_the_stretch_is_a_pair(self):
        book = book_of([("window", 5, 10)], [(3, 2)])
        for deed, told in ((book.put, (4, 4)), (book.change, (0, Window(1, 1)))):
            with self.assertRaises(Broken) as caught:
                deed(*told)
            self.assertIs(type(caught.exception.stretch), tuple)


class Refusals(unittest.TestCase):
    def assert_refused(self, book, error, deed, *told):
        """It is refused, and changes nothing."""
        before = plain.state(book)
        with self.assertRaises(error, msg=(deed, told)) as caught:
            getattr(book, deed)(*told)
        self.assertIs(type(caught.exception), error, (deed, told))
        self.assertEqual(plain.state(book), before)

    def test_of_bounds(self):
        good = [Jar(5, 1), Window(5, 1), Jar(5, 0), Window(5, 2)]
        Book(good)
        wrong = [[*good, Jar(1, 1)], [None] * 5]
        wrong += [[bound] for bound in plain.NO_BOUNDS] + [[*good[:3], bound] for bound in plain.NO_BOUNDS]
        for bounds in wrong:
            for kind in (list, tuple):
                with self.assertRaises(NoBound, msg=bounds):
                    Book(kind(bounds))

    def test_of_moments_and_costs(self):
        for book in (Book([]), book_of([("jar", 9, 0)], [(3, 5)]), book_of(FREE, [(5, 1)] * 40)):
            for deed in ("put", "drop", "earliest"):
                for moment in plain.NO_MOMENTS:
                    for cost in (1, 0, True):
                        self.assert_refused(book, NoMoment, deed, moment, cost)
                for cost in plain.NO_COSTS:
                    for moment in (0, 3, 10 ** 12):
                        self.assert_refused(book, NoCost, deed, moment, cost)

    def test_of_a_visit_that_is_not_there(self):
        self.assert_refused(Book([]), NoVisit, "drop", 0, 1)
        book = book_of(FREE, [(3, 5), (7, 2)])
        for visit in ((3, 2), (7, 5), (5, 3), (4, 5), (10 ** 12, 10 ** 9)):
            self.assert_refused(book, NoVisit, "drop", *visit)
        book.drop(3, 5)
        self.assert_refused(book, NoVisit, "drop", 3, 5)

    def test_full_ahead_of_broken(self):
        book = book_of([("window", 40, 10 ** 12)], [(5, 1)] * 39)
        self.assert_refused(book, Broken, "put", 5, 2)
        book.put(5, 1)
        for visit in ((5, 1), (0, 10 ** 9), (10 ** 12, 1)):
            self.assert_refused(book, Full, "put", *visit)
        self.assert_refused(book, NoCost, "put", 5, 0)
        self.assert_refused(book, NoMoment, "put", -1, 0)

    def test_of_places(self):
        for many in range(5):
            book = book_of([("jar", 9, 0)] * many, [(3, 5)])
            for k in (-1, -many, many, many + 1, 10 ** 30, -10 ** 30, *plain.NO_NUMBERS):
                for bound in (Jar(9, 0), Jar(1, 0), None):
                    self.assert_refused(book, NoPlace, "change", k, bound)
            for k in range(many):
                for bound in plain.NO_BOUNDS:
                    self.assert_refused(book, NoBound, "change", k, bound)
                self.assert_refused(book, Broken, "change", k, Jar(4, 9))
                book.change(k, Jar(5, 0))

    def test_broken_changes_nothing(self):
        book = book_of([("window", 5, 10), ("jar", 9, 1)], [(3, 2), (12, 3)])
        self.assert_refused(book, Broken, "put", 5, 1)
        self.assert_refused(book, Broken, "put", 20, 10)
        self.assert_refused(book, Broken, "change", 0, Window(2, 1))
        self.assert_refused(book, Broken, "change", 1, Window(4, 10))


class AgainstThePlainGoingThrough(unittest.TestCase):
    def hold_earliest(self, book, model, moment, cost):
        """Point 13, and that the visit can be put at the told moment and not before."""
        told = model.earliest(moment, cost)
        about = (model.bounds, model.row, moment, cost)
        self.assertEqual(book.earliest(moment, cost), told, about)
        if told is None or told > 10 ** 12 or len(model.row) == 40:
            return
        for less in {moment, (moment + told) // 2, told - 1} - {told}:
            if moment <= less:
                self.assertIsInstance(refusal_of(book.put, less, cost), tuple, about)
        self.assertIsNone(refusal_of(book.put, told, cost), about)
        model.put(told, cost)
        self.assertEqual(book.visits(), model.row, about)

    def do_deed(self, chance, book, model, visits):
        """One deed at the book and at the model; both tell the same."""
        word = chance.choice(["put", "put", "put", "drop", "change", "earliest", "earliest"])
        bounds, row = visits(chance, chance.randint(1, 12))
        moment, cost = row[-1]
        if word == "drop" and model.row and chance.random() < 0.8:
            moment, cost = chance.choice(model.row)
        if word == "earliest":
            self.hold_earliest(book, model, moment, cost)
            return
        if word == "change":
            k = chance.randint(-1, len(model.bounds))
            told = bounds[0] if bounds else ("window", 9, 3)
            known = model.change(k, told)
            found = refusal_of(book.change, k, plain.made(told))
        else:
            known = getattr(model, word)(moment, cost)
            found = refusal_of(getattr(book, word), moment, cost)
        self.assertEqual(found, known, (word, model.bounds, model.row, moment, cost))
        self.assertEqual(book.visits(), model.row)
        self.assertIsNone(plain.first_broken(model.bounds, book.visits()))

    def run_books(self, seed, many, deeds, visits):
        chance = random.Random(seed)
        held = 0
        for _ in range(many):
            bounds = visits(chance, 1)[0]
            book = book_of(bounds)
            model = Model(bounds)
            for _ in range(deeds):
                self.do_deed(chance, book, model, visits)
            held += len(model.row)
        self.assertGreater(held, many)

    def test_of_small_numbers(self):
        self.run_books(41, 250, 40, plain.small_visits)

    def test_of_large_numbers(self):
        self.run_books(42, 60, 30, plain.large_visits)

    def test_near_to_all_bounds(self):
        chance = random.Random(43)
        for _ in range(250):
            bounds, row = plain.near_visits(chance, 14)
            book = book_of(bounds)
            model = Model(bounds)
            chance.shuffle(row)
            for moment, cost in row:
                if chance.random() < 0.4:
                    self.hold_earliest(book, model, moment, cost)
                else:
                    self.assertEqual(refusal_of(book.put, moment, cost), model.put(moment, cost))
                self.assertEqual(book.visits(), model.row)

    def test_earliest_moment_by_moment(self):
        chance = random.Random(44)
        for _ in range(300):
            bounds, row = plain.small_visits(chance, chance.randint(0, 12))
            book = book_of(bounds)
            chance.shuffle(row)
            for visit in row:
                refusal_of(book.put, *visit)
            held = book.visits()
            cost = chance.randint(1, 9)
            moment = chance.randint(0, held[-1][0] + 3 if held else 3)
            far = (held[-1][0] if held else moment) + sum(paid for _, paid in held) + cost + 25
            known = next((at for at in range(moment, far)
                          if plain.first_broken(bounds, plain.with_visit(held, at, cost)) is None), None)
            self.assertEqual(book.earliest(moment, cost), known, (bounds, held, moment, cost))

    def test_full_books(self):
        chance = random.Random(45)
        for bounds in (
            [("window", 12, 30), ("jar", 15, 1), ("window", 4, 3)],
            [("jar", 9, 1), ("jar", 40, 0), ("window", 5, 2)],
            [("window", 1, 1), ("window", 5, 12), ("window", 9, 31), ("window", 14, 60)],
        ):
            book = book_of(bounds)
            for _ in range(2000):
                refusal_of(book.put, chance.randint(0, 400), 1)
            held = book.visits()
            self.assertEqual(len(held), 40)
            for cost in (1, 2, 4):
                kept = [at for at in range(1000) if self.is_kept(bounds, plain.with_visit(held, at, cost))]
                for moment in range(0, 420, 3):
                    known = next((at for at in kept if at >= moment), None)
                    self.assertEqual(book.earliest(moment, cost), known, (bounds, held, moment, cost))
            self.assertEqual(book.visits(), held)

    def is_kept(self, bounds, row):
        """By the program's broken, which its own tests hold against all stretches: it is the faster."""
        return all(broken(plain.made(told), row) is None for told in bounds)


if __name__ == "__main__":
    unittest.main()
