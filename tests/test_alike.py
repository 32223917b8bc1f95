"""[8.1], [8.2], [0.2] (d): needs, rings that are alike or are parted, and the least slips that do the same."""

import itertools
import math
import unittest

from goersay.alike import alike, alike_from, least_of, needs
from goersay.errors import NoName, NoRing
from goersay.rings import Ring

from rounds import HUGE, Mixed, ring_of, rings_of_all_lengths, round_by_words, row_of
from things import NO_NAMES


def play(ring, begin):
    """The order and who begins the next round, counted out by words."""
    names = ring.names()
    gone, following = round_by_words(list(ring.slips().values()), names.index(begin))
    return [names[seat] for seat in gone], names[following]


def moduli_said(ring):
    told = {name: [1] for name in ring.names()}
    for begin in ring.names():
        order, _ = play(ring, begin)
        for sitting, name in zip(reversed(range(len(order))), order):
            told[name].append(sitting if sitting > 0 else len(order))
    return told


def parted(one, other, begin):
    """The place of the first who says otherwise, None of none: what each says is the slip by how many sit."""
    (order, following), (others, behind) = play(one, begin), play(other, begin)
    if (order, following) == (others, behind):
        return None
    n = len(order)
    for at, name in enumerate(order[:-1]):
        if one.slip(name) % (n - 1 - at) != other.slip(name) % (n - 1 - at):
            return at
    return n - 1


def first_parted(one, other):
    for begin in one.names():
        at = parted(one, other, begin)
        if at is not None:
            return begin, at
    return None


def first_parted_from(one, other, begin):
    name, also = begin, begin
    for k in range(2 * len(one)):
        assert name == also
        at = parted(one, other, name)
        if at is not None:
            return k, at
        name, also = play(one, name)[1], play(other, also)[1]
    return None


def pairs_of_rings():
    """Rings of one row of names: unlike ones, such as differ in one slip, and such as are alike."""
    told = []
    for ring in rings_of_all_lengths(each=5):
        mixed = Mixed(len(told))
        names = ring.names()
        told.append((ring, Ring(names, {name: mixed.below(30000) for name in names})))
        for name in names:
            told.append((ring, ring.with_slip(name, ring.slip(name) + mixed.between(-6, 6))))
            told.append((ring, ring.with_slip(name, ring.slip(name) + needs(ring)[name] * mixed.between(-3, 3))))
            most = math.lcm(*range(1, len(names)))
            told.append((ring, ring.with_slip(name, ring.slip(name) + most)))
        told.append((ring, Ring(names, {name: slip - 27720 * HUGE for name, slip in ring.slips().items()})))
    return told


class NeedsTest(unittest.TestCase):
    def test_by_hand(self):
        # a b c, b c a, c b a: a says by 2 and 3, b by 1 and 2, c by 1, 2 and 3.
        self.assertEqual(needs(ring_of(0, 0, 1)), {"a": 6, "b": 2, "c": 6})
        self.assertEqual(needs(ring_of(5, 8)), {"a": 2, "b": 2})
        # Round and round each is at each place once.
        for many in range(2, 13):
            names = row_of(many)
            self.assertEqual(needs(ring_of(*[0] * many)), {name: math.lcm(*range(1, many + 1)) for name in names})

    def test_all_rounds_played(self):
        for ring in rings_of_all_lengths(each=12):
            said = moduli_said(ring)
            self.assertEqual(list(needs(ring).items()), [(name, math.lcm(*said[name])) for name in ring.names()])

    def test_just_those_slips_are_alike_that_leave_the_same(self):
        for slips in itertools.product((0, 1, 5), (-1, 2), (0, 3, 4)):
            ring = ring_of(*slips)
            told = needs(ring)
            for others in itertools.product(range(6), repeat=3):
                other = ring_of(*others)
                wished = all((ring.slip(name) - other.slip(name)) % told[name] == 0 for name in "abc")
                self.assertIs(alike(ring, other) is None, wished)

    def test_one_slip_is_parted_by_what_it_needs(self):
        for ring in rings_of_all_lengths(each=2):
            for name, number in needs(ring).items():
                for step in [step for step in range(1, number) if number % step == 0]:
                    self.assertIsNotNone(alike(ring, ring.with_slip(name, ring.slip(name) + step)))
                for step in (number, -number, number * HUGE):
                    self.assertIsNone(alike(ring, ring.with_slip(name, ring.slip(name) + step)))


class AlikeTest(unittest.TestCase):
    def test_by_hand(self):
        ring = ring_of(1, 6, 4, -7)
        self.assertEqual(ring.order("a"), ("a", "c", "d", "b"))
        self.assertIsNone(alike(ring, ring_of(1, 6, 4, -7)))
        # a by 3 and c by 2 say otherwise at their places, b by 4 where it is the last one; d says by 1 in it.
        self.assertEqual(alike(ring, ring_of(2, 6, 4, -7)), ("a", 0))
        self.assertEqual(alike(ring, ring_of(1, 6, 5, -7)), ("a", 1))
        self.assertEqual(alike(ring, ring_of(1, 7, 4, -7)), ("a", 3))
        # d is first asked in b c d a, by 1, and in c a d b, by 1; in d's own round by 3.
        self.assertEqual(alike(ring, ring_of(1, 6, 4, -6)), ("d", 0))

    def test_all_rounds_played(self):
        found = set()
        for one, other in pairs_of_rings():
            told = alike(one, other)
            self.assertEqual(told, first_parted(one, other))
            if told is not None:
                self.assertIsInstance(told, tuple)
                found.add((len(one), told[1] == len(one) - 1))
            else:
                found.add((len(one), None))
        # Of two hands both say by 1 at first, so only next begins can be unlike.
        self.assertEqual(len(found), 32)

    def test_next_begins_alone(self):
        for many in range(2, 13):
            names = row_of(many)
            # All of a's round is as it was, but for the last one's word by how many there are.
            one = ring_of(*[0] * many)
            most = math.lcm(*range(1, many))
            if most % many:
                self.assertEqual(alike(one, one.with_slip(names[-1], most)), ("a", many - 1))

    def test_all_small_rings(self):
        rows = list(itertools.product((0, 1, 2, 5), repeat=3))
        for slips, others in itertools.product(rows[::7], rows):
            one, other = ring_of(*slips), ring_of(*others)
            self.assertEqual(alike(one, other), first_parted(one, other))
            for begin in "abc":
                self.assertEqual(alike_from(one, other, begin), first_parted_from(one, other, begin))


class LeastTest(unittest.TestCase):
    def test_by_hand(self):
        # By 6, 2 and 6 each leaves what it was.
        ring = ring_of(0, 0, 1)
        self.assertEqual(least_of(ring_of(6, -2, -5)), ring)
        self.assertEqual(least_of(ring_of(HUGE * 6, HUGE * 2, 1 - HUGE * 6)), ring)
        self.assertEqual(least_of(ring), ring)

    def test_no_slip_could_be_less(self):
        mixed = Mixed(8)
        for ring in rings_of_all_lengths(each=3):
            told = least_of(ring)
            self.assertIsInstance(told, Ring)
            self.assertEqual(told.names(), ring.names())
            self.assertIsNone(first_parted(ring, told))
            for name, number in told.slips().items():
                self.assertGreaterEqual(number, 0)
                near = {*range(min(number, 4)), *range(max(0, number - 4), number)}
                far = {number % 60, number % 420, number % 2520, number % 1386, number - number % 12}
                for less in sorted(near | {mixed.below(number) for _ in range(8) if number} | far):
                    if less < number:
                        self.assertIsNotNone(alike(ring, told.with_slip(name, less)))

    def test_all_small_rings(self):
        rings = [ring_of(*slips) for slips in itertools.product(range(6), repeat=3)]
        by_rounds = {}
        for ring in rings:
            key = str([play(ring, begin) for begin in "abc"])
            by_rounds.setdefault(key, []).append(ring)
        for same in by_rounds.values():
            least = ring_of(*[min(ring.slip(name) for ring in same) for name in "abc"])
            for ring in same:
                self.assertEqual(least_of(ring), least)


class AlikeFromTest(unittest.TestCase):
    def test_by_hand(self):
        # From a the rounds begin at a, b, b, .. ; c's is never played.
        ring = ring_of(0, 0, 1)
        self.assertEqual([ring.next_of(begin) for begin in "abc"], ["b", "b", "b"])
        self.assertEqual([ring.order(begin) for begin in "abc"], [("a", "b", "c"), ("b", "c", "a"), ("c", "b", "a")])
        # c by 3 says the same, by 2 otherwise: it is asked so in its own round alone.
        other = ring_of(0, 0, 4)
        self.assertIsNone(alike_from(ring, other, "a"))
        self.assertIsNone(alike_from(ring, other, "b"))
        self.assertEqual(alike_from(ring, other, "c"), (0, 0))
        self.assertEqual(alike(ring, other), ("c", 0))
        # a by 3 is the last one of b's round: of round 1 from a on.
        self.assertEqual(alike_from(ring, ring_of(2, 0, 1), "a"), (1, 2))
        self.assertEqual(alike_from(ring, ring_of(2, 0, 1), "b"), (0, 2))
        self.assertEqual(alike_from(ring, ring_of(1, 0, 1), "a"), (0, 0))
        self.assertEqual(alike_from(ring, ring_of(0, 1, 1), "a"), (1, 0))

    def test_all_rounds_played(self):
        found = set()
        for one, other in pairs_of_rings()[::2]:
            for begin in one.names():
                told = alike_from(one, other, begin)
                self.assertEqual(told, first_parted_from(one, other, begin))
                found.add(told and (min(told[0], 3), told[1] == len(one) - 1))
        self.assertEqual(len(found), 9)

    def test_alike_from_all_begins_is_alike(self):
        for one, other in pairs_of_rings()[::3]:
            wished = all(alike_from(one, other, begin) is None for begin in one.names())
            self.assertIs(alike(one, other) is None, wished)


class HandedTest(unittest.TestCase):
    def test_by_name(self):
        ring, other = ring_of(0, 0, 1), ring_of(2, 0, 1)
        self.assertEqual(needs(ring=ring), {"a": 6, "b": 2, "c": 6})
        self.assertEqual(alike(other=other, one=ring), ("b", 2))
        self.assertEqual(least_of(ring=ring), ring)
        self.assertEqual(alike_from(begin="a", other=other, one=ring), (1, 2))

    def test_the_rings_stay_and_what_is_told_is_new(self):
        ring, other = Ring(["b", "a"], {"a": 9, "b": -4}), Ring(["b", "a"], {"a": 8, "b": -4})
        for _ in range(2):
            told = needs(ring)
            self.assertEqual(list(told.items()), [("b", 2), ("a", 2)])
            told.clear()
            self.assertEqual(alike(ring, other), ("b", 1))
            self.assertEqual(alike_from(ring, other, "b"), (0, 1))
            self.assertIsNone(alike_from(ring, other, "a"))
            self.assertEqual(list(least_of(ring).slips().items()), [("b", 0), ("a", 1)])
            self.assertEqual(ring, Ring(["b", "a"], {"a": 9, "b": -4}))
            self.assertEqual(other, Ring(["b", "a"], {"a": 8, "b": -4}))

    def test_no_ring_of_unlike_names(self):
        ring = ring_of(1, 2, 3)
        slips = ring.slips()
        for other in (ring_of(1, 2), ring_of(1, 2, 3, 4), Ring(["a", "b", "d"], {"a": 1, "b": 2, "d": 3}),
                      Ring(["b", "a", "c"], slips), Ring(["b", "c", "a"], slips), Ring(["c", "b", "a"], slips)):
            for one, two in ((ring, other), (other, ring)):
                with self.assertRaises(NoRing):
                    alike(one, two)
                for begin in ("a", "d", None, ["a"]):
                    with self.assertRaises(NoRing):
                        alike_from(one, two, begin)

    def test_no_name(self):
        for other in (ring_of(1, 2, 3), ring_of(0, 2, 3)):
            for thing in NO_NAMES + ["d", "abc", ["a"], ("a",), {"a": 1}]:
                with self.subTest(thing=thing), self.assertRaises(NoName) as caught:
                    alike_from(ring_of(1, 2, 3), other, thing)
                self.assertIs(caught.exception.name, thing)


if __name__ == "__main__":
    unittest.main()
