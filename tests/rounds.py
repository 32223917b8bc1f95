"""Rounds played by the words of the document, seat by seat, which the tests hold the program to."""

from goersay.rings import Ring

LETTERS = "abcdefghijklmnop"
HUGE = 10 ** 59 + 7


def row_of(many):
    return list(LETTERS[:many])


def ring_of(*slips):
    names = row_of(len(slips))
    return Ring(names, dict(zip(names, slips)))


def walk(seats, start, counts, places):
    """The seat of the place-th one that counts, walking on seat by seat behind start."""
    seat = start
    for _ in range(places + 1):
        seat = (seat + 1) % seats
        while not counts(seat):
            seat = (seat + 1) % seats
    return seat


def round_by_words(slips, begin):
    """The seats as they go, and the seat that begins the next round, counted out seat by seat."""
    n = len(slips)
    gone = [begin]
    while len(gone) < n:
        sitting = n - len(gone)
        gone.append(walk(n, gone[-1], lambda seat: seat not in gone, slips[gone[-1]] % sitting))
    return gone, walk(n, gone[-1], lambda seat: True, slips[gone[-1]] % n)


def rests_by_words(names, goers, then=None):
    """A dict from each goer behind whom another is told to its rest, seats being counted one by one."""
    n = len(names)
    told = {}
    for t, (goer, behind) in enumerate(zip(goers, goers[1:]), start=1):
        places = [walk(n, names.index(goer), lambda seat: names[seat] not in goers[:t], k) for k in range(n - t)]
        told[goer] = (places.index(names.index(behind)), n - t)
    if then is not None:
        seat = names.index(goers[-1])
        told[goers[-1]] = ((names.index(then) - seat - 1) % n, n)
    return told


class Mixed:
    """Numbers that look mixed, the same ones for each seed."""

    def __init__(self, seed):
        self.state = seed * 2654435761 + 12345

    def below(self, most):
        figures = 0
        for _ in range(most.bit_length() // 31 + 1):
            self.state = (self.state * 6364136223846793005 + 1442695040888963407) % 2 ** 64
            figures = figures * 2 ** 31 + self.state // 2 ** 33
        return figures % most

    def between(self, low, high):
        return low + self.below(high - low + 1)

    def one_of(self, things):
        return things[self.below(len(things))]

    def shuffled(self, things):
        left, row = list(things), []
        while left:
            row.append(left.pop(self.below(len(left))))
        return row

    def ring(self, many):
        """A ring of so many, of few figures, below 0, or of some 58, mixed seats."""
        most = self.one_of([3, 12, 30000, 10 ** 58])
        names = self.shuffled(row_of(many))
        return Ring(names, {name: self.between(-most, most) for name in names})


def rings_of_all_lengths(each=6):
    return [Mixed(many * 100 + turn).ring(many) for many in range(2, 13) for turn in range(each)]
