"""Rings of hands with slips, and the rounds that they play (stage 2)."""

from goersay.errors import NoName, NoRing
from goersay.rests import check_number, is_name, is_number

FEWEST = 2
MOST = 12


def is_names(thing):
    """Whether it is a list of names that a ring could have, seat by seat."""
    if not isinstance(thing, (list, tuple)) or not FEWEST <= len(thing) <= MOST:
        return False
    # Names are asked for first, as a set can't take just anything.
    if not all([is_name(name) for name in thing]):
        return False
    return len(set(thing)) == len(thing)


def check_names(thing):
    """NoRing of what is no list of names that a ring could have."""
    if not is_names(thing):
        raise NoRing(f"names have to be a list of {FEWEST} to {MOST} unlike names")


def check_name(names, thing):
    """NoName of what is none of these names, which are a list or a tuple."""
    # No dict or set of the names is asked, as these can't be asked for just anything.
    if thing not in names:
        raise NoName(thing)


def is_slips(names, thing):
    """Whether it is a dict of just these names to numbers."""
    if not isinstance(thing, dict) or len(thing) != len(names):
        return False
    return all([name in thing and is_number(thing[name]) for name in names])


def listed_behind(names, name):
    """All names, listed from the seat behind this one's on, its own last."""
    seat = names.index(name) + 1
    return names[seat:] + names[:seat]


def who_sit(names, goers):
    """Those who still sit, listed from the seat behind the latest goer's on."""
    return [name for name in listed_behind(names, goers[-1]) if name not in goers]


class Ring:
    """Hands seat by seat, each with a slip; it stays as it was made."""

    def __init__(self, names, slips):
        check_names(names)
        if not is_slips(names, slips):
            raise NoRing("slips have to be a dict of just the names to numbers")
        self._names = list(names)
        self._slips = {name: slips[name] for name in names}

    def names(self):
        """The list of the names, by seats."""
        return list(self._names)

    def slips(self):
        """The dict of the slips, by seats."""
        return dict(self._slips)

    def slip(self, name):
        """The number on this hand's slip."""
        check_name(self._names, name)
        return self._slips[name]

    def order(self, begin):
        """The tuple of all names as they go in a round that begins there."""
        check_name(self._names, begin)
        goers = [begin]
        while len(goers) < len(self._names):
            goers.append(self._counted_on(goers[-1], who_sit(self._names, goers)))
        return tuple(goers)

    def next_of(self, begin):
        """Who begins the round behind the one that begins there."""
        last = self.order(begin)[-1]
        return self._counted_on(last, listed_behind(self._names, last))

    def with_slip(self, name, number):
        """Another ring, in which this hand's slip is the number."""
        check_name(self._names, name)
        check_number(number)
        slips = dict(self._slips)
        slips[name] = number
        return Ring(self._names, slips)

    def __eq__(self, other):
        return isinstance(other, Ring) and self._names == other._names and self._slips == other._slips

    def __len__(self):
        return len(self._names)

    def _counted_on(self, goer, row):
        """The one of the row at the place that the goer's slip leaves by how many they are."""
        return row[self._slips[goer] % len(row)]
