"""[7.1], [0.2] (c): which orders may come, counted, numbered, and with the slips that bring them."""

import itertools
import math
import unittest

from goersay.errors import NoName, NoNumber, NoOrder, NoRing
from goersay.known import Known, of_rests
from goersay.maycome import how_many, next_ones, number_may, order_may, slips_for, sure
from goersay.orders import number_of, order_at
from goersay.rings import Ring
from goersay.seen import sighting_of

from rounds import HUGE, Mixed, row_of
from test_orders import NO_ORDERS
from things import ANYTHING, NO_NAMES, NO_NUMBERS, NO_ROWS

MODULI = [1, 1, 2, 2, 3, 3, 4, 5, 6, 8, 9, 10, 12, 35, HUGE, 2 * HUGE, 6 ** 40]
ABC = ["a", "b", "c"]
NO_SEATS = NO_ROWS + [
    ["a", "b", "d"], ["a", "b", "c", "d"], ["d", "e", "f"], ["a", "b", "a"], ("a", "c"), ["a", "b", ["c"]], "abc",
    {"a": 1, "b": 2, "c": 3}, [("a", "b", "c")],
]


def left_by(rest, period):
    """What numbers that have the rest may leave by the period."""
    return sorted({(rest[0] + rest[1] * k) % period for k in range(period)})


def random_known(mixed, many, moduli=MODULI):
    names = mixed.shuffled(row_of(many))
    rests = {}
    for name in names:
        m = mixed.one_of(moduli)
        rests[name] = (mixed.below(m), m)
    return of_rests(names, rests)


def seen_known(mixed, many, rounds):
    """What is known behind some rounds of a ring, and the ring."""
    ring = mixed.ring(many)
    known = Known(mixed.shuffled(row_of(many)))
    for _ in range(rounds):
        there = Ring(mixed.shuffled(row_of(many)), ring.slips())
        begin = mixed.one_of(ring.names())
        known.see(sighting_of(there, begin, many=mixed.below(many + 1), then=mixed.one_of([True, False])))
    return known, ring


def ways_of(known, period):
    return math.prod(len(left_by(rest, period)) for rest in known.rests().values())


def all_slips(known, period):
    """All slips that fit, as far as they leave something else by the period."""
    names = known.names()
    rows = [left_by(known.rest(name), period) for name in names]
    return [dict(zip(names, row)) for row in itertools.product(*rows)]


def some_knowns(period, most, lengths, each):
    """Some of few enough fitting slips to go through them all, and seats for each."""
    told = []
    for many in lengths:
        for turn in range(each):
            mixed = Mixed(many * 311 + turn)
            known = random_known(mixed, many)
            if ways_of(known, period(many)) <= most:
                told.append((known, mixed.shuffled(known.names())))
    return told


def period_of_orders(many):
    return math.lcm(*range(1, many))


class FewTest(unittest.TestCase):
    def each_known(self):
        told = some_knowns(period_of_orders, 700, (2, 3, 4, 5), 40)
        told += [(Known(row_of(many)), row_of(many)[::-1]) for many in (2, 3)]
        self.assertGreater(len(told), 70)
        for known, seats in told:
            rings = [Ring(seats, slips) for slips in all_slips(known, period_of_orders(len(seats)))]
            for begin in seats:
                orders = {ring.order(begin) for ring in rings}
                yield known, seats, begin, sorted(orders, key=lambda order: number_of(seats, order))

    def test_they_are_counted_and_numbered(self):
        for known, seats, begin, orders in self.each_known():
            many = how_many(known, seats, begin)
            self.assertEqual(many, len(orders))
            self.assertEqual([order_may(known, seats, begin, number) for number in range(many)], orders)
            self.assertEqual([number_may(known, tuple(seats), order) for order in orders], list(range(many)))
            for wrong in (-1, many, many + 1, HUGE):
                with self.assertRaises(NoNumber):
                    order_may(known, seats, begin, wrong)

    def test_who_may_go_next(self):
        for known, seats, begin, orders in self.each_known():
            for t in range(1, len(seats) + 1):
                for row in itertools.permutations([name for name in seats if name != begin], t - 1):
                    goers = (begin, *row)
                    led = [order for order in orders if order[:t] == goers]
                    if not led:
                        with self.assertRaises(NoOrder):
                            next_ones(known, seats, goers)
                        continue
                    at = seats.index(goers[-1])
                    behind = seats[at + 1:] + seats[:at]
                    wished = [name for name in behind if any(order[t:t + 1] == (name,) for order in led)]
                    self.assertEqual(next_ones(known, seats, goers), wished)

    def test_slips_are_the_least(self):
        for known, seats, _, orders in self.each_known():
            for order in orders:
                told = slips_for(known, seats, order)
                self.assertEqual(list(told), known.names())
                self.assertTrue(known.fits(told))
                self.assertEqual(Ring(seats, told).order(order[0]), order)
                for name, number in told.items():
                    r, m = known.rest(name)
                    for less in range(r, number, m):
                        self.assertNotEqual(Ring(seats, {**told, name: less}).order(order[0]), order)
                    self.assertGreaterEqual(number, 0)

    def test_other_orders_may_not_come(self):
        for known, seats, begin, orders in self.each_known():
            for number in range(math.factorial(len(seats) - 1)):
                order = order_at(seats, begin, number)
                if order not in orders:
                    for ask in (number_may, slips_for):
                        with self.assertRaises(NoOrder):
                            ask(known, seats, order)

    def test_what_is_sure(self):
        lengths = set()
        for known, seats, begin, orders in self.each_known():
            told = sure(known, seats, begin)
            self.assertIsInstance(told, tuple)
            same = [t for t in range(len(seats) + 1) if len({order[:t] for order in orders}) == 1]
            self.assertEqual(told, orders[0][:same[-1]])
            lengths.add((len(seats), len(told)))
        self.assertGreater(len(lengths), 8)


class ManyTest(unittest.TestCase):
    def assert_one_another(self, known, seats, begin, number):
        order = order_may(known, seats, begin, number)
        self.assertEqual(order[0], begin)
        self.assertEqual(number_may(known, seats, order), number)
        slips = slips_for(known, seats, order)
        self.assertTrue(known.fits(slips))
        self.assertEqual(Ring(seats, slips).order(begin), order)
        self.assertEqual(order[:len(sure(known, seats, begin))], sure(known, seats, begin))
        for t in range(1, len(order)):
            self.assertIn(order[t], next_ones(known, seats, order[:t]))
        self.assertEqual(next_ones(known, seats, order), [])
        return order

    def assert_known(self, mixed, known, seats):
        begin = mixed.one_of(seats)
        many = how_many(known, seats, begin)
        numbers = sorted({0, many - 1, many // 2, mixed.below(many)})
        orders = [self.assert_one_another(known, seats, begin, number) for number in numbers]
        told = [number_of(seats, order) for order in orders]
        self.assertEqual(told, sorted(told))
        self.assertEqual(len(set(told)), len(told))
        with self.assertRaises(NoNumber):
            order_may(known, seats, begin, many)
        return many

    def test_of_up_to_twelve(self):
        for many in range(5, 13):
            for turn in range(4):
                mixed = Mixed(many * 17 + turn)
                known, ring = seen_known(mixed, many, turn * 2 + 1)
                seats = mixed.shuffled(row_of(many))
                self.assert_known(mixed, known, seats)
                self.assert_known(mixed, random_known(mixed, many), seats)
                # The true slips fit, so what they bring may come.
                for begin in seats[:2]:
                    order = Ring(seats, ring.slips()).order(begin)
                    number = number_may(known, seats, order)
                    self.assertEqual(order_may(known, seats, begin, number), order)

    def test_where_nothing_is_known_all_may_come(self):
        for many in range(2, 13):
            names = row_of(many)
            known = Known(names)
            self.assertEqual(how_many(known, names, "b"), math.factorial(many - 1))
            self.assertEqual(sure(known, names, "b"), ("b",) if many > 2 else ("b", "a"))
            for number in {0, math.factorial(many - 1) - 1, math.factorial(many - 1) // 3}:
                order = order_may(known, names, "b", number)
                self.assertEqual(order, order_at(names, "b", number))
                self.assertEqual(number_may(known, names, order), number)

    def test_where_all_is_known_one_may_come(self):
        for many in range(2, 13):
            ring = Mixed(many).ring(many)
            known = of_rests(ring.names(), {name: (slip % 27720, 27720) for name, slip in ring.slips().items()})
            for begin in ring.names():
                order = ring.order(begin)
                self.assertEqual(how_many(known, ring.names(), begin), 1)
                self.assertEqual(sure(known, ring.names(), begin), order)
                self.assertEqual(order_may(known, ring.names(), begin, 0), order)
                self.assertEqual(number_may(known, ring.names(), order), 0)
                self.assertEqual(slips_for(known, ring.names(), order), known.least())

    def test_they_are_as_many_as_by_the_next_ones(self):
        for many in (6, 7, 8, 9):
            mixed = Mixed(many + 3)
            known = random_known(mixed, many, [2, 3, 4, 6, 12, HUGE * 4])
            seats = mixed.shuffled(row_of(many))
            left, count = [(seats[0],)], 0
            while left:
                goers = left.pop()
                nexts = next_ones(known, seats, goers)
                count += len(goers) == many
                left += [(*goers, name) for name in nexts]
            self.assertEqual(how_many(known, seats, seats[0]), count)


class HandTest(unittest.TestCase):
    def known(self):
        return of_rests(["d", "c", "b", "a"], {"a": (1, 2), "b": (0, 1), "c": (0, 2), "d": (2, 3)})

    def test_by_hand(self):
        known, seats = self.known(), ["a", "b", "c", "d"]
        # a may go on to any place of three; behind a and another one c counts 0 by 2.
        self.assertEqual(next_ones(known, seats, ("a",)), ["b", "c", "d"])
        self.assertEqual(next_ones(known, seats, ("d",)), ["c"])
        self.assertEqual(next_ones(known, seats, ("d", "c")), ["a"])
        self.assertEqual(next_ones(known, seats, ("d", "c", "a", "b")), [])
        self.assertEqual(sure(known, seats, "d"), ("d", "c", "a", "b"))
        self.assertEqual(how_many(known, seats, "d"), 1)
        # a b: c d or d c; a c: d b; a d: b c or c b, as 2 by 3 says nothing by 2.
        self.assertEqual(how_many(known, seats, "a"), 5)
        self.assertEqual(order_may(known, seats, "a", 2), ("a", "c", "d", "b"))
        self.assertEqual(number_may(known, seats, ("a", "d", "c", "b")), 4)
        self.assertEqual(list(slips_for(known, seats, ("a", "c", "d", "b")).items()),
                         [("d", 2), ("c", 0), ("b", 0), ("a", 1)])
        # a at place 2 by 3 and 1 by 2: 5; d at place 1 by 2 and 2 by 3: 5.
        self.assertEqual(slips_for(known, seats, ("a", "d", "c", "b")), {"d": 5, "c": 0, "b": 0, "a": 5})

    def test_seats_are_another_row_than_the_names(self):
        known = self.known()
        self.assertEqual(next_ones(known, ["a", "b", "c", "d"], ("d",)), ["c"])
        self.assertEqual(next_ones(known, ["d", "b", "a", "c"], ("d",)), ["c"])
        self.assertEqual(next_ones(known, ["a", "d", "c", "b"], ("d",)), ["a"])
        self.assertEqual(next_ones(known, ("d", "c", "b", "a"), ("d",)), ["a"])

    def test_kinds(self):
        known, seats = self.known(), ["a", "b", "c", "d"]
        self.assertIsInstance(next_ones(known, seats, ("a",)), list)
        self.assertIsInstance(order_may(known, seats, "a", 1), tuple)
        self.assertIs(type(how_many(known, seats, "a")), int)
        self.assertIs(type(number_may(known, seats, ("d", "c", "a", "b"))), int)

    def test_by_name(self):
        known, seats = self.known(), ("a", "b", "c", "d")
        self.assertEqual(next_ones(goers=("d",), seats=seats, known=known), ["c"])
        self.assertEqual(how_many(begin="a", seats=seats, known=known), 5)
        self.assertEqual(order_may(number=2, begin="a", seats=seats, known=known), ("a", "c", "d", "b"))
        self.assertEqual(number_may(order=("a", "c", "d", "b"), seats=seats, known=known), 2)
        self.assertEqual(slips_for(order=("d", "c", "a", "b"), seats=seats, known=known), {**known.least()})
        self.assertEqual(sure(begin="d", seats=seats, known=known), ("d", "c", "a", "b"))

    def test_what_is_handed_in_stays_and_what_is_told_is_new(self):
        known = Known(["c", "b", "a"])
        known.see((("a", "b", "c"), ("a", "b"), None))
        seats = ["b", "a", "c"]
        ahead, seen = known.twin(), known.seen()
        for _ in range(2):
            self.assertEqual(next_ones(known, seats, ("b",)), ["a", "c"])
            next_ones(known, seats, ("b",)).clear()
            self.assertEqual(how_many(known, seats, "b"), 2)
            order = order_may(known, seats, "b", 1)
            self.assertEqual(number_may(known, seats, order), 1)
            self.assertEqual(slips_for(known, seats, order), {"a": 0, "b": 1, "c": 0})
            slips_for(known, seats, order).clear()
            self.assertEqual(sure(known, seats, "b"), ("b",))
            self.assertEqual(known, ahead)
            self.assertEqual(known.seen(), seen)
            self.assertEqual(seats, ["b", "a", "c"])


class RefusedTest(unittest.TestCase):
    def test_no_ring_is_ahead(self):
        known = Known(ABC)
        for seats in NO_SEATS:
            for thing in ("a", None, ("a",), ["z"]):
                for ask in (next_ones, how_many, number_may, slips_for, sure):
                    with self.subTest(seats=seats, thing=thing), self.assertRaises(NoRing):
                        ask(known, seats, thing)
                for number in (0, -1, None):
                    with self.subTest(seats=seats, thing=thing), self.assertRaises(NoRing):
                        order_may(known, seats, thing, number)

    def test_no_name(self):
        known = Known(ABC)
        for thing in NO_NAMES + ["d", "abc", ["a"], ("a",), {"a": 1}]:
            for ask in (lambda name: how_many(known, ABC, name), lambda name: sure(known, ("b", "c", "a"), name),
                        lambda name: order_may(known, ABC, name, 0), lambda name: order_may(known, ABC, name, None)):
                with self.subTest(thing=thing), self.assertRaises(NoName) as caught:
                    ask(thing)
                self.assertIs(caught.exception.name, thing)

    def test_no_number(self):
        known = of_rests(ABC, {"a": (1, 2), "b": (0, 1), "c": (0, 1)})
        self.assertEqual(how_many(known, ABC, "a"), 1)
        for thing in NO_NUMBERS + [-1, 1, 2, HUGE, -HUGE]:
            with self.subTest(thing=thing), self.assertRaises(NoNumber):
                order_may(known, ABC, "a", thing)

    def test_no_order(self):
        known = of_rests(ABC, {"a": (1, 2), "b": (0, 1), "c": (0, 1)})
        self.assertEqual(number_may(known, ABC, ("a", "c", "b")), 0)
        for thing in NO_ORDERS + [("a", "b", "c"), ("a", "c"), ("a",), ()]:
            for ask in (number_may, slips_for):
                with self.subTest(thing=thing), self.assertRaises(NoOrder):
                    ask(known, ABC, thing)

    def test_no_goers(self):
        known = of_rests(ABC, {"a": (1, 2), "b": (0, 1), "c": (0, 1)})
        self.assertEqual(next_ones(known, ABC, ("a", "c")), ["b"])
        self.assertEqual(next_ones(known, ABC, ("a", "c", "b")), [])
        wrong = [(), ("a", "b"), ("a", "b", "c"), ["a"], ["a", "c"], ("d",), ("a", "a"), ("a", "c", "a"), "a", "ac",
                 ("a", "c", "b", "a"), {"a": 1}, (["a"],), ("a", None), (("a",),), (0,), (True,), ("a", "d"), None]
        for thing in wrong + ANYTHING:
            with self.subTest(thing=thing), self.assertRaises(NoOrder):
                next_ones(known, ABC, thing)


if __name__ == "__main__":
    unittest.main()
