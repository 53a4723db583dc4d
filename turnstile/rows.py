"""Rows of a text: first the bounds, then what is asked of the gate that is made of them."""

from turnstile.bounds import Jar, Window
from turnstile.checks import copied_bounds
from turnstile.errors import BadRow, Late, NoBound, NoCost, NoMoment, NoName
from turnstile.gate import Gate

FIGURES = "0123456789"
MOST_FIGURES = 16


def play(text):
    """The answers to the rows of a text, one for each row with a word."""
    player = Player()
    answers = []
    for row in text.splitlines():
        words = [word for word in row.split(" ") if word != ""]
        if len(words) > 0:
            answers.append(_answer_or_refusal(player, words))
    return answers


class Player:
    """Answers rows one behind the other, each told by its words."""

    def __init__(self):
        self._bounds = {"own": [], "common": []}
        self._gate = None

    def answer(self, words):
        """The answer to one row; a refusal is raised, and changes nothing."""
        if words[0] in ("own", "common"):
            return self._add_bound(words)
        if words[0] in ("ask", "visit"):
            return self._ask_or_visit(words)
        if words[0] in ("names", "kept"):
            return self._tell(words)
        raise BadRow("a row begins with own, common, ask, visit, names or kept")

    def _add_bound(self, words):
        if self._gate is not None:
            raise BadRow("bounds come ahead of the first other row")
        _check_length(words, 4)
        if words[1] not in ("jar", "window"):
            raise BadRow("a bound is a jar or a window")
        large = _number(words[2])
        small = _number(words[3])
        bound = Jar(large, small) if words[1] == "jar" else Window(large, small)
        self._bounds[words[0]] = copied_bounds(self._bounds[words[0]] + [bound])
        return "ok"

    def _ask_or_visit(self, words):
        _check_length(words, 4)
        moment = _number(words[2])
        cost = _number(words[3])
        gate = self._made_gate()
        if words[0] == "ask":
            return _shown(gate.ask(words[1], moment, cost))
        return _shown(gate.visit(words[1], moment, cost))

    def _tell(self, words):
        _check_length(words, 1)
        gate = self._made_gate()
        if words[0] == "kept":
            return str(gate.kept())
        names = gate.names()
        return " ".join(names) if len(names) > 0 else "-"

    def _made_gate(self):
        """The gate, which the first row that is no bound's makes, even where it is refused then."""
        if self._gate is None:
            self._gate = Gate(self._bounds["own"], self._bounds["common"])
        return self._gate


def _answer_or_refusal(player, words):
    """The answer to a row, or the name of what refused it."""
    try:
        return player.answer(words)
    except BadRow:
        return "refused: BadRow"
    except NoBound:
        return "refused: NoBound"
    except NoName:
        return "refused: NoName"
    except NoMoment:
        return "refused: NoMoment"
    except Late:
        return "refused: Late"
    except NoCost:
        return "refused: NoCost"


def _check_length(words, many):
    """Refuses a row of too few or too many words."""
    if len(words) != many:
        raise BadRow(f"a row that begins with {words[0]} has {many} words")


def _number(word):
    """The number of a word of figures."""
    if len(word) > MOST_FIGURES or not all([sign in FIGURES for sign in word]):
        raise BadRow(f"a number has 1 to {MOST_FIGURES} figures")
    return int(word)


def _shown(told):
    """What a gate told of a visit, in words."""
    if told[0] == "open":
        return "open"
    _, which, k, wait = told
    shown_wait = "never" if wait is None else str(wait)
    return f"shut {which} {k} {shown_wait}"
