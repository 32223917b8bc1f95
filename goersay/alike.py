"""Rings that are alike, and what of their slips that hangs on (stage 8)."""

from math import lcm

from goersay.errors import NoRing
from goersay.far import begins
from goersay.rings import Ring
from goersay.seen import says, sighting_of


def needs(ring):
    """The dict, by seats, of the least number that all moduli divide by which each hand says something."""
    told = {name: 1 for name in ring.names()}
    for begin in ring.names():
        for name, rest in says(sighting_of(ring, begin, then=True)):
            told[name] = lcm(told[name], rest[1])
    return told


def alike(one, other):
    """None, or (begin, at): the first begin whose rounds aren't alike, and the place of who says otherwise first."""
    _check_one_row(one, other)
    for begin in one.names():
        at = _parted_at(one, other, begin)
        if at is not None:
            return (begin, at)
    return None


def least_of(ring):
    """The ring alike with it whose slips are the least from 0 on."""
    slips = ring.slips()
    return Ring(ring.names(), {name: slips[name] % modulus for name, modulus in needs(ring).items()})


def alike_from(one, other, begin):
    """None, or (k, at): the first round from there on that isn't alike, and the place as alike tells it."""
    _check_one_row(one, other)
    ahead, again = begins(one, begin)
    # As long as all was alike the other's rounds begin where these do.
    for k, name in enumerate(ahead + again):
        at = _parted_at(one, other, name)
        if at is not None:
            return (k, at)
    return None


def _check_one_row(one, other):
    if one.names() != other.names():
        raise NoRing("both rings have to have one row of names")


def _parted_at(one, other, begin):
    """The place of the first goer of the round from there who says otherwise, None of none."""
    row, others = one.order(begin), other.order(begin)
    for at in range(1, len(row)):
        if row[at] != others[at]:
            return at - 1
    if one.next_of(begin) != other.next_of(begin):
        return len(row) - 1
    return None
