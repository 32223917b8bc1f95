"""Deeds, and a house that does them by the words of the document, which the tests hold the program to."""

import copy
import math

from rounds import rests_by_words, round_by_words, row_of

WATCHERS = ["v", "w", "x", "y", "z"]


def random_eyes(mixed, watchers, many):
    """Some of the watchers, each with how many it sees and whether then, too."""
    eyes = []
    for watcher in mixed.shuffled(watchers):
        if mixed.below(3):
            seen = mixed.between(1, many)
            eyes.append((watcher, seen, seen == many and mixed.one_of([True, False])))
    return tuple(eyes)


def random_deed(mixed, names, watchers, rounds=True, most=12):
    """A deed that a house of these hands and watchers doesn't refuse."""
    if rounds and mixed.below(2):
        return ("round", mixed.one_of(names), random_eyes(mixed, watchers, len(names)))
    strange = [name for name in WATCHERS if name not in watchers]
    words = ["more", "anew", "swap", "seat"] + ["watch"] * bool(strange)
    words += ["come"] * (len(names) < most) + ["go"] * (len(names) > 2)
    word = mixed.one_of(words)
    one, other = mixed.shuffled(names)[:2]
    if word == "watch":
        return (word, mixed.one_of(strange))
    if word in ("more", "anew"):
        return (word, one, mixed.between(-300, 300))
    if word in ("swap", "seat"):
        return (word, one, other)
    if word == "come":
        new = mixed.one_of([name for name in row_of(14) if name not in names])
        return (word, new, mixed.between(-300, 300), mixed.between(0, len(names)))
    return (word, one)


class Shadow:
    """A house by words: hands with slips seat by seat, and of each watcher which numbers fit, below a period."""

    def __init__(self, names, slips, most=12):
        self.hands = [[name, slips[name]] for name in names]
        self.period = math.lcm(*range(1, most + 1))
        self.fitting = {}
        self.seen = {}

    def names(self):
        return [name for name, _ in self.hands]

    def slips(self):
        return {name: slip for name, slip in self.hands}

    def at(self, name):
        return self.names().index(name)

    def do(self, deed):
        word, parts = deed[0], deed[1:]
        if word == "watch":
            self.fitting[parts[0]] = {name: set(range(self.period)) for name in self.names()}
            self.seen[parts[0]] = []
            return None
        if word == "round":
            return self.play(*parts)
        getattr(self, word)(*parts)
        self.seen = {watcher: [] for watcher in self.seen}
        return None

    def play(self, begin, eyes):
        names = self.names()
        gone, following = round_by_words(list(self.slips().values()), self.at(begin))
        order, following = tuple(names[seat] for seat in gone), names[following]
        for watcher, many, then in eyes:
            told = rests_by_words(names, order[:many], following if then else None)
            for name, (r, m) in told.items():
                self.fitting[watcher][name] = {x for x in self.fitting[watcher][name] if x % m == r}
            self.seen[watcher].append((tuple(names), order[:many], following if then else None))
        return order, following

    def more(self, name, k):
        self.hands[self.at(name)][1] += k
        for told in self.fitting.values():
            told[name] = {(x + k) % self.period for x in told[name]}

    def anew(self, name, number):
        self.hands[self.at(name)][1] = number
        for told in self.fitting.values():
            told[name] = set(range(self.period))

    def swap(self, one, other):
        first, second = self.hands[self.at(one)], self.hands[self.at(other)]
        first[1], second[1] = second[1], first[1]
        for told in self.fitting.values():
            told[one], told[other] = told[other], told[one]

    def seat(self, one, other):
        first, second = self.at(one), self.at(other)
        self.hands[first], self.hands[second] = self.hands[second], self.hands[first]

    def come(self, name, number, at):
        self.hands.insert(at, [name, number])
        for told in self.fitting.values():
            told[name] = set(range(self.period))

    def go(self, name):
        del self.hands[self.at(name)]
        for told in self.fitting.values():
            del told[name]

    def twin(self):
        return copy.deepcopy(self)


def fitting_by(rest, period):
    """All numbers below the period that have the rest."""
    r, m = rest
    return {x for x in range(period) if x % m == r}
