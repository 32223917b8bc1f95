"""What may come: the orders that some slips bring that fit what is known (stage 7)."""

from goersay.errors import NoOrder, NoRing
from goersay.orders import is_order
from goersay.rests import both, by, check_between
from goersay.rings import check_name, is_names, listed_behind
from goersay.seen import is_sighting, says


class Ways:
    """How rounds may go on in these seats; hands are seat numbers within, and who went is a number of bits."""

    def __init__(self, known, seats):
        n = len(seats)
        self._seats = list(seats)
        self._all_gone = (1 << n) - 1
        self._behind = [listed_behind(list(range(n)), at)[:-1] for at in range(n)]
        # By how many still sit, from 0 on: behind all no place is left.
        self._places = [[[]] + [by(known.rest(name), sit) for sit in range(1, n)] for name in seats]
        self._counted = {}

    def next_ones(self, goers):
        """Those who may go next, as they sit behind the last one."""
        return [self._seats[at] for at in self._next_seats(self._gone(goers), self._seats.index(goers[-1]))]

    def many(self, goers):
        """How many orders that may come begin with these, who may go so."""
        return self._many_on(self._gone(goers), self._seats.index(goers[-1]))

    def _gone(self, goers):
        return sum([1 << self._seats.index(name) for name in goers])

    def _next_seats(self, gone, last):
        sitting = [at for at in self._behind[last] if not gone >> at & 1]
        return [sitting[place] for place in self._places[last][len(sitting)]]

    def _many_on(self, gone, last):
        if gone == self._all_gone:
            return 1
        # How it goes on hangs on who went and on the last one, not on how the others went.
        if (gone, last) not in self._counted:
            nexts = self._next_seats(gone, last)
            self._counted[(gone, last)] = sum([self._many_on(gone | 1 << at, at) for at in nexts])
        return self._counted[(gone, last)]


def check_seats(known, seats):
    """NoRing of what is no list of just the names of which this is known."""
    if not is_names(seats) or sorted(seats) != sorted(known.names()):
        raise NoRing("seats have to be a list of just the names that are known of")


def next_ones(known, seats, goers):
    """The list of those who may go next, as they sit behind the last one."""
    check_seats(known, seats)
    if not _may_go(known, seats, goers):
        raise NoOrder("goers have to be a tuple of who went, as some slips that fit lead")
    return Ways(known, seats).next_ones(goers)


def how_many(known, seats, begin):
    """How many orders that begin there may come."""
    check_seats(known, seats)
    check_name(seats, begin)
    return Ways(known, seats).many((begin,))


def order_may(known, seats, begin, number):
    """Of the orders that may come, rising by their numbers, the one that so many are ahead of."""
    check_seats(known, seats)
    check_name(seats, begin)
    ways = Ways(known, seats)
    check_between(number, 0, ways.many((begin,)) - 1)
    goers = (begin,)
    ahead = number
    while len(goers) < len(seats):
        nexts = ways.next_ones(goers)
        turn = 0
        while ahead >= ways.many((*goers, nexts[turn])):
            ahead = ahead - ways.many((*goers, nexts[turn]))
            turn += 1
        goers = (*goers, nexts[turn])
    return goers


def number_may(known, seats, order):
    """How many of the orders that may come are ahead of this one."""
    check_seats(known, seats)
    _check_may_come(known, seats, order)
    ways = Ways(known, seats)
    ahead = 0
    for t in range(1, len(order)):
        nexts = ways.next_ones(order[:t])
        passed = nexts[:nexts.index(order[t])]
        ahead += sum([ways.many((*order[:t], name)) for name in passed])
    return ahead


def slips_for(known, seats, order):
    """The dict, as known's names, of the least numbers from 0 on that fit and bring this order."""
    check_seats(known, seats)
    _check_may_come(known, seats, order)
    behind = known.twin()
    behind.see((tuple(seats), order, None))
    return behind.least()


def sure(known, seats, begin):
    """The longest tuple with which all orders that may come from there begin."""
    check_seats(known, seats)
    check_name(seats, begin)
    ways = Ways(known, seats)
    goers = (begin,)
    nexts = ways.next_ones(goers)
    while len(nexts) == 1:
        goers = (*goers, nexts[0])
        nexts = ways.next_ones(goers)
    return goers


def _may_go(known, seats, thing):
    """Whether it is a tuple of who went, one at least, as some slips that fit lead."""
    sighting = (tuple(seats), thing, None)
    if not is_sighting(sighting):
        return False
    return all([both(known.rest(name), rest) is not None for name, rest in says(sighting)])


def _check_may_come(known, seats, thing):
    if not is_order(seats, thing) or not _may_go(known, seats, thing):
        raise NoOrder("it has to be an order that may come")
