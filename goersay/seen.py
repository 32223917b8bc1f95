"""Sightings: who was seen to go, and what that says (stage 5)."""

from goersay.errors import NoSighting
from goersay.orders import rests_told
from goersay.rests import check_between
from goersay.rings import check_name, is_names, listed_behind

ALL = 0


def is_sighting(thing):
    """Whether it is a tuple (names, goers, then)."""
    if not isinstance(thing, tuple) or len(thing) != 3:
        return False
    names, goers, then = thing
    if not isinstance(names, tuple) or not is_names(names) or not _is_goers(names, goers):
        return False
    return then is None or (len(goers) == len(names) and then in names)


def says(sighting):
    """The list of pairs (name, rest) that it says, as they went."""
    if not is_sighting(sighting):
        raise NoSighting(0)
    names, goers, then = sighting
    rests = rests_told(names, goers)
    if then is not None:
        rests.append((listed_behind(names, goers[-1]).index(then), len(names)))
    # Behind the latest goer nobody may be told: then it has no rest here.
    return [(name, rest) for name, rest in zip(goers, rests) if rest[1] != 1]


def sighting_of(ring, begin, *, many=ALL, then=False):
    """What is seen of the round from there: the first many goers, and who begins next where then is True."""
    names = tuple(ring.names())
    check_name(names, begin)
    check_between(many, 0, len(names))
    whole = many in (ALL, len(names))
    goers = ring.order(begin)
    if whole and then is True:
        return (names, goers, ring.next_of(begin))
    if whole:
        return (names, goers, None)
    return (names, goers[:many], None)


def _is_goers(names, thing):
    if not isinstance(thing, tuple) or len(thing) == 0:
        return False
    # Each is held to the names first, as a set can't take just anything.
    if not all([goer in names for goer in thing]):
        return False
    return len(set(thing)) == len(thing)
