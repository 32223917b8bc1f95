"""What is wished of a ring: slips for a round or for sightings, the fewest begins and goers to be seen (stage 9)."""

from itertools import combinations
from math import lcm

from goersay.alike import needs
from goersay.errors import NoName
from goersay.known import NOTHING, Known, check_sightings
from goersay.orders import rests_of
from goersay.rests import has
from goersay.rings import check_name
from goersay.seen import says, sighting_of

MOST_BEGINS = 4


def changes_for(ring, order):
    """The rising list of the hands whose slips must be others for this round."""
    rests = rests_of(ring.names(), order)
    return sorted([name for name, rest in zip(order, rests) if not has(rest, ring.slip(name))])


def slips_wished(names, sightings):
    """The dict, as names, of the least numbers from 0 on that bring all sightings."""
    known = Known(names)
    check_sightings(names, sightings)
    for sighting in sightings:
        known.see(sighting)
    return known.least()


def fewest_begins(ring):
    """The list of the fewest begins whose rounds, then told, say of each hand as much as all rounds do."""
    names = ring.names()
    said = {begin: _moduli(names, sighting_of(ring, begin, then=True)) for begin in names}
    needed = tuple(needs(ring).values())
    for many in range(1, len(names)):
        # Of as many begins those whose seats are the least come first.
        for begins in combinations(names, many):
            if _together([said[begin] for begin in begins]) == needed:
                return list(begins)
    return names


def fewest_eyes(ring, begins):
    """The list of how many goers are seen of the round from each begin, by which as much is told as by all whole."""
    _check_begins(ring.names(), begins)
    tellings = [_tellings(ring, begin) for begin in begins]
    # From what is told of each hand to the first of the least lists of numbers that tell it.
    found = {tellings[0][0]: []}
    for rows in tellings:
        found = _seen_too(found, rows)
    return found[_together([rows[-1] for rows in tellings])]


def _check_begins(names, thing):
    if not isinstance(thing, (list, tuple)):
        raise NoName(None)
    for begin in thing:
        check_name(names, begin)
    if not 1 <= len(thing) <= MOST_BEGINS:
        raise NoName(None)


def _moduli(names, sighting):
    """By what it says something of each of the names, 1 of whom it says nothing."""
    said = dict(says(sighting))
    return tuple([said.get(name, NOTHING)[1] for name in names])


def _together(rows):
    """By what rows of such moduli, one at least, say something of each together."""
    told = rows[0]
    for row in rows[1:]:
        told = tuple([lcm(one, other) for one, other in zip(told, row)])
    return told


def _tellings(ring, begin):
    """The moduli told where none are seen of this round, one, two .. all, and all and who begins next."""
    names = ring.names()
    told = [tuple([1 for _ in names])]
    for many in range(1, len(names) + 1):
        told.append(_moduli(names, sighting_of(ring, begin, many=many)))
    told.append(_moduli(names, sighting_of(ring, begin, then=True)))
    return told


def _seen_too(found, rows):
    """As found, behind one round more, of which the first row is told, or the next one .."""
    behind = {}
    for told, numbers in found.items():
        for many, row in enumerate(rows):
            key, longer = _together([told, row]), [*numbers, many]
            if key not in behind or _is_less(longer, behind[key]):
                behind[key] = longer
    return behind


def _is_less(one, other):
    return (sum(one), one) < (sum(other), other)
