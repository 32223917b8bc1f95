"""Two rounds, one behind the other, that may come (stage 7)."""

from goersay.errors import Clash, NoOrder, TooMany
from goersay.maycome import check_seats, how_many, order_may
from goersay.orders import check_order
from goersay.rests import by
from goersay.rings import check_name, listed_behind

MOST_TO_COUNT = 6


def two_may(known, seats, one, other):
    """Whether the two orders may come one behind the other."""
    return _behind_two(known, seats, one, other) is not None


def slips_for_two(known, seats, one, other):
    """The dict, as known's names, of the least numbers from 0 on that fit and bring both."""
    behind = _behind_two(known, seats, one, other)
    if behind is None:
        raise NoOrder("the two have to be orders that may come one behind the other")
    return behind.least()


def how_many_two(known, seats, begin):
    """How many pairs of orders, the first from there, may come one behind the other."""
    check_seats(known, seats)
    check_name(seats, begin)
    if len(seats) > MOST_TO_COUNT:
        raise TooMany(MOST_TO_COUNT)
    firsts = [order_may(known, seats, begin, number) for number in range(how_many(known, seats, begin))]
    return sum([_many_behind(known, seats, one) for one in firsts])


def _behind_two(known, seats, one, other):
    """A Known as this one that saw both rounds, None where it can't be."""
    check_seats(known, seats)
    check_order(seats, one)
    check_order(seats, other)
    behind = known.twin()
    try:
        behind.see((tuple(seats), one, other[0]))
        behind.see((tuple(seats), other, None))
    except Clash:
        return None
    return behind


def _many_behind(known, seats, one):
    """How many orders may come behind this one, which may come."""
    row = listed_behind(seats, one[-1])
    total = 0
    for place in by(known.rest(one[-1]), len(row)):
        behind = known.twin()
        behind.see((tuple(seats), one, row[place]))
        total += how_many(behind, seats, row[place])
    return total
