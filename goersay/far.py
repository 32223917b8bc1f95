"""Rounds from a begin on, of however great a number, the first one's being 0 (stage 4)."""

from goersay.errors import NoNumber
from goersay.rests import is_number


def begins(ring, begin):
    """The pair of the lists of who begins: ahead of the first that comes again, and from it on till then."""
    row = [begin]
    following = ring.next_of(begin)
    while following not in row:
        row.append(following)
        following = ring.next_of(following)
    turn = row.index(following)
    return (row[:turn], row[turn:])


def begin_at(ring, begin, k):
    """Who begins round k."""
    ahead, again = begins(ring, begin)
    _check_count(k)
    if k < len(ahead):
        return ahead[k]
    return again[(k - len(ahead)) % len(again)]


def round_at(ring, begin, k):
    """The order of round k."""
    return ring.order(begin_at(ring, begin, k))


def lasts(ring, begin, k):
    """The dict, by seats, of how often each hand is the last one in the first k rounds."""
    ahead, again = begins(ring, begin)
    _check_count(k)
    told = {name: 0 for name in ring.names()}
    for at, name in enumerate(ahead):
        if at < k:
            told[ring.order(name)[-1]] += 1
    left = max(0, k - len(ahead))
    for at, name in enumerate(again):
        # The turns that are whole, and one more where the rounds left over come as far as this one.
        told[ring.order(name)[-1]] += left // len(again) + int(at < left % len(again))
    return told


def _check_count(thing):
    if not is_number(thing) or thing < 0:
        raise NoNumber("a number from 0 on is due")
