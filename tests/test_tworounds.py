"""[7.2], [0.2] (c): which two orders may come one behind the other, their slips, and how many there are."""

import itertools
import math
import unittest

from goersay.errors import NoName, NoOrder, NoRing, TooMany
from goersay.known import Known, of_rests
from goersay.maycome import how_many, order_may
from goersay.rings import Ring
from goersay.tworounds import how_many_two, slips_for_two, two_may

from rounds import HUGE, Mixed, rests_by_words, row_of
from test_maycome import ABC, NO_SEATS, all_slips, random_known, seen_known, some_knowns
from test_orders import NO_ORDERS
from things import NO_NAMES


def period_of_two(many):
    return math.lcm(*range(1, many + 1))


def two_of(ring, begin):
    return ring.order(begin), ring.order(ring.next_of(begin))


class FewTest(unittest.TestCase):
    def each_known(self):
        """Some of few names, and of them all pairs that slips that fit bring, begin by begin."""
        told = some_knowns(period_of_two, 700, (2, 3, 4), 40)
        told += [(Known(row_of(many)), row_of(many)[::-1]) for many in (2, 3)]
        self.assertGreater(len(told), 50)
        for known, seats in told:
            rings = [Ring(seats, slips) for slips in all_slips(known, period_of_two(len(seats)))]
            yield known, seats, {begin: {two_of(ring, begin) for ring in rings} for begin in seats}

    def test_all_pairs_of_orders(self):
        found = set()
        for known, seats, pairs in self.each_known():
            orders = list(itertools.permutations(seats))
            for one, other in itertools.product(orders, orders):
                wished = (one, other) in pairs[one[0]]
                self.assertIs(two_may(known, seats, one, other), wished)
                found.add((len(seats), wished))
                if not wished:
                    with self.assertRaises(NoOrder):
                        slips_for_two(known, seats, one, other)
        self.assertEqual(len(found), 6)

    def test_they_are_counted(self):
        for known, seats, pairs in self.each_known():
            for begin in seats:
                self.assertEqual(how_many_two(known, seats, begin), len(pairs[begin]))

    def test_slips_are_the_least(self):
        for known, seats, pairs in self.each_known():
            for begin in seats:
                for one, other in sorted(pairs[begin])[:12]:
                    told = slips_for_two(known, seats, one, other)
                    self.assertEqual(list(told), known.names())
                    self.assertTrue(known.fits(told))
                    self.assertEqual(two_of(Ring(seats, told), begin), (one, other))
                    for name, number in told.items():
                        self.assertGreaterEqual(number, 0)
                        r, m = known.rest(name)
                        for less in range(r, number, m):
                            self.assertNotEqual(two_of(Ring(seats, {**told, name: less}), begin), (one, other))

    def test_of_four_where_nothing_is_known(self):
        known, seats = Known(row_of(4)), ["b", "d", "a", "c"]
        pairs = {two_of(Ring(seats, slips), "a") for slips in all_slips(known, 12)}
        self.assertEqual(how_many_two(known, seats, "a"), len(pairs))
        orders = list(itertools.permutations(seats))
        for one in [order for order in orders if order[0] == "a"]:
            for other in orders:
                self.assertIs(two_may(known, seats, one, other), (one, other) in pairs)


class ManyTest(unittest.TestCase):
    def test_the_count_is_that_of_the_pairs(self):
        for many in (5, 6):
            for turn in range(8):
                mixed = Mixed(many * 41 + turn)
                known = seen_known(mixed, many, 2)[0] if turn % 2 else random_known(mixed, many, [2, 3, 4, 12, HUGE])
                seats = mixed.shuffled(row_of(many))
                begin = seats[0]
                if how_many(known, seats, begin) > 12:
                    continue
                count = 0
                for number in range(how_many(known, seats, begin)):
                    one = order_may(known, seats, begin, number)
                    for other in itertools.permutations(seats):
                        count += two_may(known, seats, one, other)
                self.assertEqual(how_many_two(known, seats, begin), count)

    def test_of_six_where_nothing_is_known(self):
        names = row_of(6)
        told = {order: rests_by_words(names, order) for order in itertools.permutations(names)}
        count = 0
        for one in [order for order in told if order[0] == "b"]:
            for other in told:
                count += self.go_together(rests_by_words(names, one, other[0]), told[other])
        self.assertEqual(how_many_two(Known(names), names, "b"), count)

    def go_together(self, rests, others):
        """Whether each hand's two rests, which are told by dicts, have a number in common."""
        pairs = [(rests[name], others[name]) for name in others]
        return all((r - s) % math.gcd(m, n) == 0 for (r, m), (s, n) in pairs)

    def test_what_rings_play_may_come(self):
        for many in range(2, 13):
            for turn in range(6):
                mixed = Mixed(many * 29 + turn)
                known, ring = seen_known(mixed, many, turn)
                seats = mixed.shuffled(row_of(many))
                there = Ring(seats, ring.slips())
                for begin in seats:
                    one, other = two_of(there, begin)
                    self.assertIs(two_may(known, seats, one, other), True)
                    slips = slips_for_two(known, tuple(seats), one, other)
                    self.assertTrue(known.fits(slips))
                    self.assertEqual(list(slips), known.names())
                    self.assertEqual(two_of(Ring(seats, slips), begin), (one, other))
                    self.assertTrue(all(0 <= slips[name] < 27720 for name in slips))

    def test_where_all_is_known_there_is_one_pair(self):
        for many in range(2, 7):
            ring = Mixed(many).ring(many)
            known = of_rests(ring.names(), {name: (slip % 60, 60) for name, slip in ring.slips().items()})
            for begin in ring.names():
                self.assertEqual(how_many_two(known, ring.names(), begin), 1)
                self.assertEqual(slips_for_two(known, ring.names(), *two_of(ring, begin)), known.least())


class HandTest(unittest.TestCase):
    def test_by_hand(self):
        known = Known(ABC)
        # In a b c a is 0 by 2, so in one that a begins again b goes next, too; c says by 3 that a begins.
        self.assertIs(two_may(known, ABC, ("a", "b", "c"), ("a", "b", "c")), True)
        self.assertIs(two_may(known, ABC, ("a", "b", "c"), ("a", "c", "b")), False)
        self.assertEqual(slips_for_two(known, ABC, ("a", "b", "c"), ("a", "b", "c")), {"a": 0, "b": 0, "c": 0})
        # c says 1 by 3 that b begins, and b is 1 by 2; c, gone behind b in the first, is asked by 3 alone.
        self.assertEqual(slips_for_two(known, ABC, ("a", "b", "c"), ("b", "a", "c")), {"a": 0, "b": 1, "c": 1})
        # c begins by its own 2 by 3, and as the first of the second it is 1 by 2: 5.
        self.assertEqual(slips_for_two(known, ABC, ("a", "b", "c"), ("c", "b", "a")), {"a": 0, "b": 0, "c": 5})
        # Two orders from a, three begins behind each, two orders from each of these, but one from a, who has gone.
        self.assertEqual(how_many_two(known, ABC, "a"), 10)

    def test_the_last_one_says_who_begins(self):
        known = of_rests(ABC, {"a": (0, 1), "b": (0, 1), "c": (1, 3)})
        for then in ABC:
            other = (then, *[name for name in ABC if name != then])
            self.assertIs(two_may(known, ABC, ("a", "b", "c"), other), then == "b")

    def test_false_where_one_alone_may_not(self):
        known = of_rests(ABC, {"a": (1, 2), "b": (0, 1), "c": (0, 1)})
        for one, other in ((("a", "b", "c"), ("b", "a", "c")), (("b", "a", "c"), ("a", "b", "c")),
                           (("a", "b", "c"), ("a", "b", "c"))):
            self.assertIs(two_may(known, ABC, one, other), False)
            with self.assertRaises(NoOrder):
                slips_for_two(known, ABC, one, other)

    def test_by_name(self):
        known = Known(ABC)
        order = ("a", "b", "c")
        self.assertIs(two_may(other=order, one=order, seats=ABC, known=known), True)
        self.assertEqual(slips_for_two(other=order, one=order, seats=ABC, known=known), {"a": 0, "b": 0, "c": 0})
        self.assertEqual(how_many_two(begin="a", seats=tuple(ABC), known=known), 10)

    def test_what_is_handed_in_stays_and_what_is_told_is_new(self):
        known = Known(["c", "b", "a"])
        known.see((("a", "b", "c"), ("a", "b"), None))
        ahead, seen, seats = known.twin(), known.seen(), ["a", "b", "c"]
        for _ in range(2):
            self.assertIs(two_may(known, seats, ("a", "b", "c"), ("c", "b", "a")), True)
            told = slips_for_two(known, seats, ("a", "b", "c"), ("c", "b", "a"))
            self.assertEqual(list(told.items()), [("c", 5), ("b", 0), ("a", 0)])
            told.clear()
            self.assertIs(two_may(known, seats, ("a", "c", "b"), ("c", "b", "a")), False)
            self.assertEqual(how_many_two(known, seats, "a"), 5)
            self.assertEqual(known, ahead)
            self.assertEqual(known.seen(), seen)
            self.assertEqual(seats, ["a", "b", "c"])


class RefusedTest(unittest.TestCase):
    def test_no_ring_is_ahead(self):
        known = Known(ABC)
        for seats in NO_SEATS:
            for one in (("a", "b", "c"), None):
                for ask in (two_may, slips_for_two):
                    with self.subTest(seats=seats), self.assertRaises(NoRing):
                        ask(known, seats, one, None)
            for begin in ("a", None):
                with self.subTest(seats=seats), self.assertRaises(NoRing):
                    how_many_two(known, seats, begin)
        with self.assertRaises(NoRing):
            how_many_two(Known(row_of(7)), row_of(6), "a")
        with self.assertRaises(NoRing):
            how_many_two(Known(row_of(6)), row_of(7), "a")

    def test_no_name_is_ahead_of_too_many(self):
        for known in (Known(ABC), Known(row_of(7))):
            for thing in NO_NAMES + ["l", ["a"], ("a",), {"a": 1}]:
                with self.subTest(thing=thing), self.assertRaises(NoName) as caught:
                    how_many_two(known, known.names(), thing)
                self.assertIs(caught.exception.name, thing)

    def test_too_many(self):
        for many in range(7, 13):
            names = row_of(many)
            ring = Mixed(many).ring(many)
            full = of_rests(names, {name: (ring.slip(name) % 27720, 27720) for name in names})
            for known in (Known(names), full):
                with self.assertRaises(TooMany) as caught:
                    how_many_two(known, names[::-1], "b")
                self.assertEqual(caught.exception.most, 6)
        self.assertGreater(how_many_two(Known(row_of(6)), row_of(6), "f"), 120)

    def test_no_order(self):
        known = Known(ABC)
        good = ("a", "b", "c")
        for thing in NO_ORDERS + [("a", "c"), ("a",), ()]:
            for ask in (two_may, slips_for_two):
                for one, other in ((thing, good), (good, thing), (thing, thing)):
                    with self.subTest(thing=thing), self.assertRaises(NoOrder):
                        ask(known, ABC, one, other)


if __name__ == "__main__":
    unittest.main()
