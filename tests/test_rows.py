"""Points 14 and 15: rows of a text."""

import itertools
import random
import re
import unittest

from turnstile.rows import play
from tests import plain

SIZES = {"jar": (10 ** 15, 0, 10 ** 9), "window": (10 ** 15, 1, 10 ** 12)}
BAD = "refused: BadRow"

# Rows that are no rows, whatever stands ahead of them.
BAD_ROWS = (
    # another first word
    "open", "Ask bob 1 1", "VISIT bob 1 1", "asks bob 1 1", "as bob 1 1", "jar 5 2", "name", "Names", "keep",
    "owns jar 5 2", "Own jar 5 2", "commons jar 5 2", "-", "0", "5 5", "#", "ask,bob 1 1", "visit_bob_1_1", "~",
    # too few or too many words
    "ask", "ask bob", "ask bob 1", "ask bob 1 1 1", "visit", "visit bob", "visit bob 1", "visit bob 1 1 1",
    "ask 1 1", "visit bob 1 1 # late", "names names", "names 1", "kept 0", "kept bob", "names -",
    "own", "own jar", "own jar 5", "own jar 5 2 1", "own window", "own window 5", "own window 5 2 1",
    "common", "common jar", "common jar 5", "common jar 5 2 1", "common window 5", "common window 5 2 1",
    # neither jar nor window
    "own Jar 5 2", "own jars 5 2", "own 5 5 2", "common WINDOW 5 2", "common windows 5 2", "common - 5 2", "own own 5 2",
    # no numbers
    *(row.replace("N", word)
      for row in ("own jar N 2", "own jar 5 N", "own window N 2", "own window 5 N", "common jar N 2", "common jar 5 N",
                  "common window N 2", "common window 5 N", "ask bob N 1", "ask bob 1 N", "visit bob N 1",
                  "visit bob 1 N")
      for word in ("x", "-1", "+1", "-0", "1.0", "1,0", "1_0", "0x1", "1e3", "1a", "a1", "--", "1-", "never", "\"1\"",
                   "(1)", "1/1", "1:", "0" * 17, "1" * 17, "0" * 16 + "1", "9" * 40, "-" + "1" * 15)),
)


class Model:
    """The rows in the document's words; what a gate tells is gone through by all stretches."""

    def __init__(self):
        self.bounds = {"own": [], "common": []}
        self.made = False
        self.came = []

    def answer(self, row):
        """The answer to a row; None of one without words."""
        row = re.sub(" +", " ", row).strip(" ")
        if not row:
            return None
        if re.fullmatch("(own|common) (jar|window) [0-9]{1,16} [0-9]{1,16}", row) and not self.made:
            return self.bound(*row.split())
        if re.fullmatch("(ask|visit) [^ ]+ [0-9]{1,16} [0-9]{1,16}", row):
            self.made = True
            return self.visit(*row.split())
        if row in ("names", "kept"):
            self.made = True
            return self.told(row)
        return BAD

    def bound(self, which, kind, first, second):
        large, least, largest = SIZES[kind]
        if not 1 <= int(first) <= large or not least <= int(second) <= largest or len(self.bounds[which]) == 4:
            return "refused: NoBound"
        self.bounds[which].append((kind, int(first), int(second)))
        return "ok"

    def visit(self, word, name, moment, cost):
        moment = int(moment)
        cost = int(cost)
        if not re.fullmatch("[a-z]{1,8}", name):
            return "refused: NoName"
        if moment > 10 ** 12:
            return "refused: NoMoment"
        if self.came and moment < self.came[-1][1]:
            return "refused: Late"
        if not 1 <= cost <= 10 ** 9:
            return "refused: NoCost"
        told = plain.gate_answer(self.bounds["own"], self.bounds["common"], self.came, name, moment, cost)
        if word == "visit" and told[0] == "open":
            self.came.append((name, moment, cost))
        return " ".join("never" if part is None else str(part) for part in told)

    def told(self, word):
        names = sorted({name for name, _, _ in self.came})
        if word == "names":
            return " ".join(names) or "-"
        kept = sum(plain.in_reach(told, plain.of(self.came, name)) for told in self.bounds["own"] for name in names)
        return str(kept + sum(plain.in_reach(told, plain.of_all(self.came)) for told in self.bounds["common"]))


class Examples(unittest.TestCase):
    def test_every_kind_of_row(self):
        text = "\n".join((
            "own jar 5 2", "own window 8 10", "common window 12 10", "common jar 20 0",
            "ask bob 0 5", "names", "kept",
            "visit bob 0 5", "visit bob 0 1", "ask ann 0 5", "visit ann 1 5", "names",
            "ask bob 3 4", "visit bob 3 3", "visit bob 4 2", "visit bob 10 6", "visit ann 11 1", "kept", "visit cat 12 6",
            "ask cat 12 5", "ask cat 12 9", "names",
        ))
        self.assertEqual(play(text), [
            "ok", "ok", "ok", "ok",
            "open", "-", "0",
            "open", "shut own 0 1", "open", "open", "ann bob",
            "shut own 1 7", "shut common 0 7", "open", "shut own 0 never", "open", "5", "shut own 0 never",
            "open", "shut own 0 never", "ann bob",
        ])

    def test_waits_in_figures_and_never(self):
        self.assertEqual(play("own window 1 1000000000000\nvisit bob 1000000000000 1\nvisit bob 1000000000000 1"),
                         ["ok", "open", "shut own 0 1000000000000"])
        self.assertEqual(play("own window 9 9\nown window 5 9\ncommon jar 7 0\nvisit a 0 5\nvisit b 0 2\n"
                              "ask a 0 1\nask b 3 3\nask b 3 1\nask c 3 1\nask c 3 6"),
                         ["ok", "ok", "ok", "open", "open", "shut own 1 never", "shut common 0 never",
                          "shut common 0 never", "shut common 0 never", "shut own 1 never"])
        self.assertEqual(play("common jar 9 0\ncommon jar 8 3\nvisit a 0 8\nask b 0 1\nask b 0 2"),
                         ["ok", "ok", "open", "shut common 1 1", "shut common 0 never"])

    def test_without_words_there_is_no_answer(self):
        for text in ("", "\n", "\n\n\n", " ", "   \n  \n "):
            self.assertEqual(play(text), [])
        self.assertEqual(play("\n\nown jar 5 2\n\n   \nnames\n \n"), ["ok", "-"])

    def test_blanks_ahead_behind_and_more_than_one(self):
        text = "  own   jar 5  2   \n visit bob  0 5\nvisit    bob 0 1 \n   names\nkept  "
        self.assertEqual(play(text), ["ok", "open", "shut own 0 1", "bob", "0"])
        self.assertEqual(play("  names   names  "), [BAD])

    def test_without_bounds(self):
        self.assertEqual(play("visit bob 0 1000000000\nvisit ann 0 1\nnames\nkept"), ["open", "open", "ann bob", "0"])
        self.assertEqual(play("names"), ["-"])
        self.assertEqual(play("kept"), ["0"])

    def test_names_and_kept(self):
        text = "own window 5 9\ncommon window 9 9\n" + "\n".join(
            f"visit {name} {moment} {cost}\nnames\nkept"
            for name, moment, cost in (("zoe", 0, 6), ("zoe", 0, 5), ("bob", 1, 4), ("ann", 2, 1), ("ann", 20, 1)))
        self.assertEqual(play(text), [
            "ok", "ok", "shut own 0 never", "-", "0", "open", "zoe", "2", "open", "bob zoe", "4",
            "shut common 0 7", "bob zoe", "4", "open", "ann bob zoe", "4"])

    def test_each_text_has_a_gate_of_its_own(self):
        text = "own window 5 9\nvisit bob 7 5\nnames"
        for _ in range(2):
            self.assertEqual(play(text), ["ok", "open", "bob"])
        self.assertEqual(play("ask bob 0 9"), ["open"])

    def test_what_is_told_is_the_askers_own(self):
        told = play("names\nkept")
        self.assertIs(type(told), list)
        self.assertEqual([type(answer) for answer in told], [str, str])
        told.clear()
        self.assertEqual(play("names\nkept"), ["-", "0"])


class Numbers(unittest.TestCase):
    def test_of_one_to_sixteen_figures_with_noughts_ahead(self):
        self.assertEqual(play("own jar 5 2\nvisit bob 7 5\nask bob 7 1"), ["ok", "open", "shut own 0 1"])
        for many in range(1, 17):
            five, two, seven, one = (str(number).zfill(many) for number in (5, 2, 7, 1))
            text = f"own jar {five} {two}\nvisit bob {seven} {five}\nask bob {seven} {one}"
            self.assertEqual(play(text), ["ok", "open", "shut own 0 1"])
            self.assertEqual(play(f"common window {five} {two}\nvisit bob {seven} {five}\nask bob {seven} {one}"),
                             ["ok", "open", "shut common 0 2"])
        self.assertEqual(play("own jar 08 09\nvisit bob 08 09"), ["ok", "shut own 0 never"])

    def test_of_seventeen_figures(self):
        five = "5".zfill(17)
        for row in (f"own jar {five} 2", f"own window 5 {five}", f"common jar 5 {five}", f"common window {five} 5",
                    f"ask bob {five} 1", f"visit bob 1 {five}"):
            self.assertEqual(play(row), [BAD], row)
            self.assertNotEqual(play(row.replace(five, five[1:])), [BAD], row)

    def test_the_least_and_the_largest(self):
        for which in ("own", "common"):
            for row in ("jar 1 0", f"jar {10 ** 15} {10 ** 9}", "window 1 1", f"window {10 ** 15} {10 ** 12}"):
                self.assertEqual(play(f"{which} {row}"), ["ok"])
            for row in ("jar 0 0", f"jar {10 ** 15 + 1} 0", f"jar 1 {10 ** 9 + 1}", "window 0 1", "window 1 0",
                        f"window {10 ** 15 + 1} 1", f"window 1 {10 ** 12 + 1}", "jar 9999999999999999 9999999999999999",
                        "jar 0000000000000000 1", "window 9999999999999999 1"):
                self.assertEqual(play(f"{which} {row}"), ["refused: NoBound"], row)
        for moment, cost in itertools.product((0, 10 ** 12), (1, 10 ** 9)):
            self.assertEqual(play(f"ask bob {moment} {cost}"), ["open"])


class Refusals(unittest.TestCase):
    def test_bad_rows(self):
        for row in BAD_ROWS:
            self.assertEqual(play(row), [BAD], row)
            text = f"own jar 5 2\n{row}\nown window 9 9\nvisit bob 3 4\n{row}\nvisit bob 3 2\nnames\n{row}\nkept"
            self.assertEqual(play(text), ["ok", BAD, "ok", "open", BAD, "shut own 0 1", "bob", BAD, "1"], row)

    def test_bounds_behind_the_first_other_row(self):
        bounds = ["own jar 5 2", "own window 5 2", "common jar 5 2", "common window 5 2", "own jar 0 0",
                  "common window 9999999999999999 1"]
        others = ["ask bob 5 1", "visit bob 5 1", "names", "kept", "ask bob 5 9", "visit bob 5 9",
                  "ask Bob 0 1", "visit bob 0 0", "ask bob 2000000000000 1", "visit abcdefghi 0 1"]
        for first, other in itertools.product(bounds[:4], others):
            told = play("\n".join([first, other, *bounds, other]))
            self.assertEqual(told[0], "ok")
            self.assertNotIn(BAD, (told[1], told[-1]))
            self.assertEqual(told[2:-1], [BAD] * len(bounds), (first, other))
        for other in others:
            self.assertEqual(play("\n".join([other, *bounds]))[1:], [BAD] * len(bounds))

    def test_bounds_behind_a_bad_row(self):
        for row in BAD_ROWS:
            self.assertEqual(play(f"{row}\nown jar 5 2\n{row}\ncommon window 5 2\n{row}\nask bob 0 6"),
                             [BAD, "ok", BAD, "ok", BAD, "shut own 0 never"], row)

    def test_bounds_behind_a_refused_bound(self):
        self.assertEqual(play("own jar 0 2\nown jar 5 2\ncommon window 1 0\nask bob 0 6"),
                         ["refused: NoBound", "ok", "refused: NoBound", "shut own 0 never"])

    def test_of_a_fifth_bound(self):
        for which, other in (("own", "common"), ("common", "own")):
            rows = [f"{which} jar {size} 0" for size in (90, 80, 70, 60)]
            rows += [f"{which} jar 50 0", f"{which} window 40 1", f"{which} jar 0 0", f"{which} jar 5 x",
                     f"{other} jar 65 0", f"{which} jar 40 0", "ask bob 0 61", "ask bob 0 60", "ask bob 0 66"]
            wide = f"shut {which} 3 never"
            self.assertEqual(play("\n".join(rows)), [
                "ok", "ok", "ok", "ok", "refused: NoBound", "refused: NoBound", "refused: NoBound", BAD,
                "ok", "refused: NoBound", wide, "open", wide if which == "own" else "shut own 0 never"])

    def test_of_asks_and_visits(self):
        for word in ("ask", "visit"):
            for name in ("Bob", "bob1", "abcdefghi", "1", "b-b", "-", "`", "{", "bob,"):
                self.assertEqual(play(f"{word} {name} 0 1"), ["refused: NoName"])
            for moment in (10 ** 12 + 1, 9999999999999999):
                self.assertEqual(play(f"{word} bob {moment} 1"), ["refused: NoMoment"])
            for cost in (0, "0000000000000000", 10 ** 9 + 1, 9999999999999999):
                self.assertEqual(play(f"{word} bob 0 {cost}"), ["refused: NoCost"])
            self.assertEqual(play(f"visit bob 7 1\n{word} bob 6 1\n{word} ann 6 1\n{word} ann 7 1"),
                             ["open", "refused: Late", "refused: Late", "open"])

    def test_their_order(self):
        for word in ("ask", "visit"):
            told = play("\n".join(["visit bob 7 1"] + [f"{word} {row}" for row in (
                "Bob 2000000000000 x", "Bob 2000000000000 0", "Bob 6 0", "bob 2000000000000 0", "bob 6 0", "bob 7 0")]))
            self.assertEqual(told, ["open", BAD, "refused: NoName", "refused: NoName", "refused: NoMoment",
                                    "refused: Late", "refused: NoCost"])

    def test_what_is_refused_changes_nothing(self):
        chance = random.Random(51)
        refused = ["ask Bob 0 1", "visit Bob 999 1", "visit bob 2000000000000 1", "visit bob 999 0", "ask bob 0 0",
                   "visit zoe 999 9999999999", *BAD_ROWS]
        bounds = ["own jar 9 1", "common window 20 15", "own window 9 5"]
        for _ in range(150):
            rows = [f"visit {chance.choice(('ann', 'bob'))} {5 + k // 2} {chance.randint(1, 9)}" for k in range(12)]
            rows += ["names", "kept"]
            mixed = list(bounds)
            for row in rows:
                mixed += chance.choices(refused, k=3) + [row]
            told = [answer for answer in play("\n".join(mixed)) if not answer.startswith("refused")]
            self.assertEqual(told, play("\n".join(bounds + rows)))


class AgainstThePlainGoingThrough(unittest.TestCase):
    def random_number(self, chance, good):
        if chance.random() < 0.04:
            return chance.choice(["x", "-1", "+5", "0" * 17, "9" * 16, "0", str(10 ** 12 + 1)])
        return str(good).zfill(chance.choice([1, 1, 1, 5, 16]))

    def random_row(self, chance, k, many):
        """A row that is mostly right where bounds come first, and mostly asks and visits later."""
        number = self.random_number
        if chance.random() < 0.03:
            return chance.choice(BAD_ROWS)
        if k < many // 5 or chance.random() < 0.03:
            kind, large, small = plain.roomy_bound(chance)
            words = [chance.choice(["own", "common"]), kind, number(chance, large), number(chance, small)]
        elif chance.random() < 0.12:
            words = [chance.choice(["names", "kept"])]
        else:
            name = chance.choice(["a", "bob", "cat", "zoe", "abcdefgh"] * 8 + ["Bob", "abcdefghi"])
            moment = max(0, k + chance.choice([0, 0, 0, 0, -1, -2]))
            words = [chance.choice(["ask", "visit", "visit"]), name, number(chance, moment),
                     number(chance, chance.randint(1, 9))]
        if chance.random() < 0.03:
            words = words[:-1] if chance.random() < 0.5 else words + ["1"]
        gaps = [" " * chance.choice([1, 1, 1, 2]) for _ in words]
        return " " * chance.choice([0, 0, 1]) + "".join(itertools.chain(*zip(words, gaps)))[:chance.choice([-1, None])]

    def test_random_texts(self):
        chance = random.Random(52)
        seen = {}
        for _ in range(400):
            many = chance.randint(1, 40)
            rows = [self.random_row(chance, k, many) for k in range(many)]
            model = Model()
            known = [answer for answer in map(model.answer, rows) if answer is not None]
            self.assertEqual(play("\n".join(rows)), known, rows)
            for answer in known:
                words = answer.split()
                key = answer if answer.startswith("refused") else words[0]
                seen[key] = seen.get(key, 0) + 1
        for name in ("BadRow", "NoBound", "NoName", "NoMoment", "Late", "NoCost"):
            self.assertGreater(seen.get(f"refused: {name}", 0), 20, name)
        for word in ("ok", "open", "shut", "-"):
            self.assertGreater(seen.get(word, 0), 20, word)


if __name__ == "__main__":
    unittest.main()
