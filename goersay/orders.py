"""Orders of going: the rests that they say, and their numbers (stage 3)."""

from math import factorial

from goersay.errors import NoOrder
from goersay.rests import check_between, is_number
from goersay.rings import check_name, check_names, who_sit


def is_order(names, thing):
    """Whether it is a tuple of all these names, each once."""
    if not isinstance(thing, tuple) or len(thing) != len(names):
        return False
    return all([name in thing for name in names])


def check_order(names, thing):
    """NoOrder of what is no order of these names."""
    if not is_order(names, thing):
        raise NoOrder("an order has to be a tuple of all the names, each once")


def rests_told(names, goers):
    """The list of the rests of those behind whom another one went, as they went."""
    rests = []
    for t in range(1, len(goers)):
        sitting = who_sit(names, goers[:t])
        rests.append((sitting.index(goers[t]), len(sitting)))
    return rests


def rests_of(names, order):
    """The tuple of the rests that all but the last one say, as they went."""
    check_names(names)
    check_order(names, order)
    return tuple(rests_told(names, order))


def order_by(names, begin, places):
    """The order that begins there and in which the goers' next ones stood at these places."""
    check_names(names)
    check_name(names, begin)
    if not _is_places(len(names), places):
        raise NoOrder("places have to be a tuple of a number for each but the last one, below how many sit")
    goers = [begin]
    for place in places:
        goers.append(who_sit(names, goers)[place])
    return tuple(goers)


def number_of(names, order):
    """The number whose figures are the order's places, the first one's the greatest."""
    number = 0
    for place, many in rests_of(names, order):
        number = number * many + place
    return number


def order_at(names, begin, number):
    """The order that begins there and has this number."""
    check_names(names)
    check_name(names, begin)
    check_between(number, 0, factorial(len(names) - 1) - 1)
    places = []
    left = number
    # The last figure goes to 1 alone, each one ahead of it to one more.
    for many in range(1, len(names)):
        places.append(left % many)
        left = left // many
    return order_by(names, begin, tuple(places[::-1]))


def _is_places(n, thing):
    if not isinstance(thing, tuple) or len(thing) != n - 1:
        return False
    return all([is_number(place) and 0 <= place < n - 1 - at for at, place in enumerate(thing)])
