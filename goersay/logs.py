"""Logs: what was done in a house and what came of it, slips left out (stage 11)."""

from goersay.changes import slips_behind
from goersay.errors import GoerError, NoLog
from goersay.house import House, all_see
from goersay.known import NOTHING
from goersay.orders import is_order
from goersay.rests import both, least, moved
from goersay.rings import is_names
from goersay.seen import says

# Each word with how many parts its rows have, behind the first row.
ROWS = (
    ("watch", 1), ("round", 4), ("more", 2), ("anew", 1), ("swap", 2), ("seat", 2), ("come", 2), ("go", 1),
)


class Trail:
    """Where a log leads: who sits and watches, and what its rounds say of each slip, as it was when it came."""

    def __init__(self, names):
        # All its slips are 0: this house refuses what any would, as none asks for slips there.
        self._house = House(names, {name: 0 for name in names})
        # From each hand to the number of its slip, as they came; of each slip what is said and what was added to it.
        self._numbers = {name: at for at, name in enumerate(names)}
        self._said = [NOTHING for _ in names]
        self._added = [0 for _ in names]

    def goes_on(self, row):
        """Whether the row can be behind those ahead; where it can't be nothing may be asked any more."""
        if not _is_row(row):
            return False
        try:
            self._house.do(_deed_without_slips(row))
        except GoerError:
            return False
        if row[0] == "round":
            return self._holds_round(row[1], row[2], row[3])
        self._move_slips(row[0], row[1:])
        return True

    def slips(self):
        """The list of the least numbers from 0 on of the slips, as they came."""
        return [least(rest) for rest in self._said]

    def _holds_round(self, begin, order, then):
        """Whether it is a round of who sits that some slips bring with all ahead."""
        names = self._house.ring().names()
        if not is_order(names, order) or order[0] != begin or then not in names:
            return False
        for name, rest in says((tuple(names), order, then)):
            at = self._numbers[name]
            narrowed = both(self._said[at], moved(rest, -self._added[at]))
            if narrowed is None:
                return False
            self._said[at] = narrowed
        return True

    def _move_slips(self, word, parts):
        if word in ("anew", "come"):
            self._said.append(NOTHING)
            self._added.append(0)
        elif word == "more":
            name, k = parts
            self._added[self._numbers[name]] += k
        self._numbers = slips_behind(self._numbers, word, parts, len(self._said) - 1)


def log_of(house):
    """The log of the deeds that stand."""
    names = house.begun().names()
    again = House(names, house.begun().slips())
    log = [("names", tuple(names))]
    for deed in house.deeds():
        told = again.do(deed)
        if deed[0] == "round":
            order, then = told
            log.append(("round", deed[1], order, then, deed[2]))
        else:
            word, parts = all_see(deed)
            log.append((word, *parts))
    return log


def first_wrong(log):
    """None, or the number of the first row that can't be; 0 of no list and of one without rows."""
    return _followed(log)[0]


def slips_of(log):
    """The list of the least numbers from 0 on that bring it, for the hands at first, then for each anew and come."""
    row, slips = _followed(log)
    if row is not None:
        raise NoLog(row)
    return slips


def _followed(log):
    """The pair of the first wrong row, None of none, and of the slips."""
    if not isinstance(log, (list, tuple)) or len(log) == 0 or not _is_first_row(log[0]):
        return (0, [])
    trail = Trail(log[0][1])
    for at, row in enumerate(log[1:], start=1):
        if not trail.goes_on(row):
            return (at, [])
    return (None, trail.slips())


def _is_first_row(thing):
    if not isinstance(thing, tuple) or len(thing) != 2 or thing[0] != "names":
        return False
    return isinstance(thing[1], tuple) and is_names(thing[1])


def _is_row(thing):
    return isinstance(thing, tuple) and len(thing) > 0 and (thing[0], len(thing) - 1) in ROWS


def _deed_without_slips(row):
    """The deed of which such a row is told, a new slip being 0."""
    if row[0] == "round":
        return ("round", row[1], row[4])
    if row[0] in ("anew", "come"):
        return (*row[:2], 0, *row[2:])
    return row
