"""What is known of slips by what was seen (stage 6)."""

from goersay.errors import Clash, NoRest, NoSighting
from goersay.rests import both, has, is_number, is_rest, least
from goersay.rings import check_name, check_names, is_slips
from goersay.seen import is_sighting, says

NOTHING = (0, 1)


class Known:
    """Of each name a rest: just the numbers that have it fit what was seen."""

    def __init__(self, names):
        check_names(names)
        self._names = list(names)
        self._rests = {name: NOTHING for name in names}
        self._seen = []

    def see(self, sighting):
        """The rising list of the names of which more is known now."""
        if not _is_of(self._names, sighting):
            raise NoSighting(len(self._seen))
        said = says(sighting)
        for name, rest in said:
            if both(self._rests[name], rest) is None:
                raise Clash(name, self._first_against(name, rest), len(self._seen))
        more = []
        for name, rest in said:
            narrowed = both(self._rests[name], rest)
            if narrowed != self._rests[name]:
                self._rests[name] = narrowed
                more.append(name)
        self._seen.append(sighting)
        return sorted(more)

    def names(self):
        """The list of the names, as handed in."""
        return list(self._names)

    def rests(self):
        """The dict of what is known, in the order of the names."""
        return dict(self._rests)

    def rest(self, name):
        """What is known of this name."""
        check_name(self._names, name)
        return self._rests[name]

    def seen(self):
        """The list of the sightings that it saw."""
        return list(self._seen)

    def fits(self, slips):
        """Whether it is a dict of just these names to numbers that have all rests."""
        if not is_slips(self._names, slips):
            return False
        return all([has(rest, slips[name]) for name, rest in self._rests.items()])

    def least(self):
        """The dict of the least numbers from 0 on that fit."""
        return {name: least(rest) for name, rest in self._rests.items()}

    def twin(self):
        """Another one that knows and saw the same."""
        other = of_rests(self._names, self._rests)
        other._seen = list(self._seen)
        return other

    def __eq__(self, other):
        return isinstance(other, Known) and self._names == other._names and self._rests == other._rests

    def _first_against(self, name, rest):
        """The number of the first sighting whose rest has no number in common with this one, -1 of none."""
        for at, sighting in enumerate(self._seen):
            if both(_said_of(sighting, name), rest) is None:
                return at
        return -1


def of_rests(names, rests):
    """A Known of these rests that saw nothing."""
    known = Known(names)
    if not _is_rests(names, rests):
        raise NoRest("rests have to be a dict of just the names to rests")
    known._rests = {name: rests[name] for name in names}
    return known


def first_clash(names, sightings):
    """None, or (name, one, other), of the first clash of those that are seen one by one."""
    known = Known(names)
    check_sightings(names, sightings)
    try:
        for sighting in sightings:
            known.see(sighting)
    except Clash as clash:
        return (clash.name, clash.one, clash.other)
    return None


def is_clash(names, sightings, thing):
    """Whether it is (name, one, other), of which these sightings say what has no number in common."""
    check_names(names)
    check_sightings(names, sightings)
    if not isinstance(thing, tuple) or len(thing) != 3:
        return False
    name, one, other = thing
    if name not in names or not is_number(one) or not is_number(other):
        return False
    if not 0 <= one < other < len(sightings):
        return False
    return both(_said_of(sightings[one], name), _said_of(sightings[other], name)) is None


def check_sightings(names, thing):
    """NoSighting(at) of the first that is none of these names, 0 of no list."""
    if not isinstance(thing, (list, tuple)):
        raise NoSighting(0)
    for at, sighting in enumerate(thing):
        if not _is_of(names, sighting):
            raise NoSighting(at)


def _is_of(names, thing):
    """Whether it is a sighting of these names, seated anyhow."""
    return is_sighting(thing) and sorted(thing[0]) == sorted(names)


def _said_of(sighting, name):
    """What the sighting says of this name."""
    return dict(says(sighting)).get(name, NOTHING)


def _is_rests(names, thing):
    if not isinstance(thing, dict) or len(thing) != len(names):
        return False
    return all([name in thing and is_rest(thing[name]) for name in names])
