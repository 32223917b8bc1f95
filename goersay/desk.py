"""A desk, which takes rows of words and answers each by a row (stage 12)."""

from goersay.errors import NoDeed, NoName, NoNumber, NoOrder, NoRing, NoText, NoWatcher, TooMany
from goersay.far import round_at
from goersay.house import House
from goersay.logs import first_wrong, log_of
from goersay.maycome import how_many, sure
from goersay.papers import fewest_last
from goersay.rests import is_name
from goersay.texts import number_in

# What is due behind each word: a name where n stands, figures where f does. Rows of ring and round are of any length.
DEED_ROWS = {"watch": "n", "more": "nf", "anew": "nf", "swap": "nn", "seat": "nn", "come": "nff", "go": "n"}
ASKING_ROWS = {"undo": "", "knows": "n", "may": "nn", "sure": "nn", "far": "nf", "fewest": "nn", "judge": ""}


def _undone(house):
    return "ok" if house.undo() else "nothing"


def _knows(house, watcher):
    return ", ".join([f"{name} {r}/{m}" for name, (r, m) in house.known(watcher).rests().items()])


def _may(house, watcher, begin):
    return str(how_many(house.known(watcher), house.ring().names(), begin))


def _sure(house, watcher, begin):
    return " ".join(sure(house.known(watcher), house.ring().names(), begin))


def _far(house, begin, k):
    return " ".join(round_at(house.ring(), begin, k))


def _fewest(house, begin, last):
    number, order, _ = fewest_last(house.ring(), begin, last)
    return f"{number} " + " ".join(order)


def _judged(house):
    row = first_wrong(log_of(house))
    return "ok" if row is None else str(row)


ASKING = {
    "undo": _undone, "knows": _knows, "may": _may, "sure": _sure, "far": _far, "fewest": _fewest, "judge": _judged,
}


class Desk:
    """It has a house as soon as a row told its ring."""

    def __init__(self):
        self._house = None

    def say(self, row):
        """The answer to this row."""
        word, parts = _read_row(row)
        if word is None or (self._house is None and word != "ring"):
            return "no row"
        try:
            return self._answer(word, parts)
        except NoRing:
            return "refused noring"
        except NoName:
            return "refused noname"
        except NoNumber:
            return "refused nonumber"
        except NoOrder:
            return "refused noorder"
        except NoDeed:
            return "refused nodeed"
        except NoWatcher:
            return "refused nowatcher"
        except TooMany:
            return "refused toomany"

    def _answer(self, word, parts):
        if word == "ring":
            # A ring that is refused leaves the house as it is.
            self._house = House(parts[::2], dict(zip(parts[::2], parts[1::2])))
            return "ok"
        if word == "round":
            order, then = self._house.do(("round", parts[0], tuple(parts[1:])))
            return " ".join(order) + " > " + then
        if word in DEED_ROWS:
            self._house.do((word, *parts))
            return "ok"
        ask = ASKING[word]
        return ask(self._house, *parts)


def answers(text):
    """The list of a new desk's answers to a text's rows."""
    if not isinstance(text, str):
        raise NoText(0)
    rows = text.split("\n")
    # Behind the last line feed there is nothing.
    if rows.pop() != "":
        raise NoText(len(rows) + 1)
    desk = Desk()
    return [desk.say(row) for row in rows]


def _read_row(row):
    """The pair of the word and the list of what stands behind it, (None, []) of no row."""
    words = row.split(" ") if isinstance(row, str) else [""]
    word, behind = words[0], words[1:]
    form = _form_of(word, len(behind))
    if form is None or len(form) != len(behind):
        return (None, [])
    parts = [_read_part(kind, part) for kind, part in zip(form, behind)]
    if None in parts:
        return (None, [])
    return (word, parts)


def _form_of(word, many):
    """What is due behind this word, of which so many words stand there; e of an eye, None of another word."""
    if word == "ring":
        return "nf" * max(1, many // 2)
    if word == "round":
        return "n" + "e" * (many - 1)
    if word in DEED_ROWS:
        return DEED_ROWS[word]
    return ASKING_ROWS.get(word)


def _read_part(kind, word):
    """What is written there, None where it isn't of this kind."""
    if kind == "n":
        return word if is_name(word) else None
    if kind == "f":
        return number_in(word)
    return _eye_in(word)


def _eye_in(word):
    """The tuple (watcher, many, then) that is written there, None of no eye."""
    watcher, _, figures = word.removesuffix(">").partition(":")
    many = number_in(figures)
    if not is_name(watcher) or many is None:
        return None
    return (watcher, many, word.endswith(">"))
