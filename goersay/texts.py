"""Rings and sightings, written and read (stage 12)."""

from goersay.errors import NoSighting, NoText
from goersay.rests import is_name
from goersay.rings import Ring
from goersay.seen import is_sighting

FIGURES = "0123456789"
MOST_FIGURES = 60


def ring_text(ring):
    """A row for each hand, by seats: its name, a blank, its slip."""
    return "".join([f"{name} {slip}\n" for name, slip in ring.slips().items()])


def read_ring(text):
    """The ring that is written there."""
    if not isinstance(text, str) or text == "":
        raise NoText(0)
    rows = text.split("\n")
    # Behind the last line feed there is nothing.
    last = rows.pop()
    hands = [_hand_in(row, at) for at, row in enumerate(rows)]
    if last != "":
        _hand_in(last, len(rows))
        raise NoText(len(rows) + 1)
    return Ring([name for name, _ in hands], dict(hands))


def sighting_text(sighting):
    """The names, the goers and, where it is told, who began the next round."""
    if not is_sighting(sighting):
        raise NoSighting(0)
    names, goers, then = sighting
    text = " ".join(names) + " : " + " ".join(goers)
    if then is None:
        return text
    return text + " > " + then


def read_sighting(text):
    """The sighting that is written there."""
    words = text.split(" ") if isinstance(text, str) else []
    if ":" not in words:
        raise NoText(0)
    at = words.index(":")
    names, goers, then = words[:at], words[at + 1:], None
    if ">" in goers[-2:-1]:
        goers, then = goers[:-2], goers[-1]
    if not _is_all_names(names) or not _is_all_names(goers) or not (then is None or is_name(then)):
        raise NoText(0)
    sighting = (tuple(names), tuple(goers), then)
    if not is_sighting(sighting):
        raise NoSighting(0)
    return sighting


def number_in(word):
    """The number that is written there in figures, None of what is none so."""
    figures = word.removeprefix("-")
    if not 1 <= len(figures) <= MOST_FIGURES or not all([sign in FIGURES for sign in figures]):
        return None
    if figures.startswith("0") and word != "0":
        return None
    return int(word)


def _hand_in(row, at):
    """The pair of the name and the slip that are written there; NoText(at) where it isn't so by form."""
    name, _, figures = row.partition(" ")
    slip = number_in(figures)
    if not is_name(name) or slip is None:
        raise NoText(at)
    return (name, slip)


def _is_all_names(words):
    return len(words) > 0 and all([is_name(word) for word in words])
