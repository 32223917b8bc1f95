"""[3.1] orders: the rests that they say, the places that make them, and their numbers."""

import itertools
import math
import unittest

from goersay.errors import NoName, NoNumber, NoOrder, NoRing
from goersay.orders import number_of, order_at, order_by, rests_of

from rounds import HUGE, Mixed, rests_by_words, rings_of_all_lengths, row_of
from things import ANYTHING, NO_NAMES, NO_NUMBERS, NO_ROWS

NO_ORDERS = ANYTHING + [
    ["a", "b", "c"], ("a", "b"), ("a", "b", "b"), ("a", "b", "c", "a"), ("a", "b", "c", "c"), ("a", "b", "d"),
    ("a", "b", "c", "d"), ("a", "b", None), ("a", "b", "C"), ("a", "b", ["c"]), (("a",), "b", "c"), "abc",
    {"a": 1, "b": 2, "c": 3}, (("a", "b", "c"),), (0, 1, 2), ("a", "b", {"c": 1}), (True, "b", "c"), ("abc",),
    (["a", "b", "c"],), ("a", "a", "a"),
]
NO_PLACES = [thing for thing in ANYTHING if thing != (0, 0)] + [
    (0,), (0, 0, 0), (2, 0), (0, 1), (-1, 0), (0, -1), [0, 0], [1, 0], (False, 0), (0, False), (True, 0), (1, None),
    ("0", 0), ("0", "0"), "00", {0: 0, 1: 0}, ((0,), 0), (0, [0]), (HUGE, 0), ((0, 2), (0, 1)), (1, 0, 0), (1,),
]


def orders_from(names, begin):
    others = [name for name in names if name != begin]
    return [(begin, *row) for row in itertools.permutations(others)]


class RestsTest(unittest.TestCase):
    def test_by_hand(self):
        # Behind a sit b c d, c at place 1; behind c sit d b, d at place 0; behind d b alone.
        self.assertEqual(rests_of(["a", "b", "c", "d"], ("a", "c", "d", "b")), ((1, 3), (0, 2), (0, 1)))
        self.assertEqual(rests_of(["a", "b", "c", "d"], ("c", "b", "a", "d")), ((2, 3), (1, 2), (0, 1)))
        self.assertEqual(rests_of(["a", "b"], ("b", "a")), ((0, 1),))

    def test_kinds(self):
        told = rests_of(["a", "b", "c"], ("b", "a", "c"))
        self.assertIsInstance(told, tuple)
        for rest in told:
            self.assertIsInstance(rest, tuple)
            self.assertEqual(len(rest), 2)
        self.assertEqual(order_by(["a", "b", "c"], "b", (1, 0)), ("b", "a", "c"))
        self.assertIsInstance(order_by(["a", "b", "c"], "b", (1, 0)), tuple)

    def assert_there_and_back(self, names, order):
        rests = rests_of(names, order)
        wished = rests_by_words(list(names), order)
        self.assertEqual(rests, tuple(wished[name] for name in order[:-1]))
        self.assertEqual([m for _, m in rests], list(range(len(names) - 1, 0, -1)))
        self.assertEqual(rests[-1], (0, 1))
        self.assertEqual(order_by(names, order[0], tuple(r for r, _ in rests)), order)

    def test_all_orders_of_few(self):
        for many in range(2, 6):
            for names in (row_of(many), tuple(Mixed(many).shuffled(row_of(many)))):
                for begin in names:
                    for order in orders_from(names, begin):
                        self.assert_there_and_back(names, order)

    def test_some_orders_of_many(self):
        for many in range(6, 13):
            mixed = Mixed(many)
            for turn in range(30):
                names = mixed.shuffled(row_of(many))
                self.assert_there_and_back(names if turn % 2 else tuple(names), tuple(mixed.shuffled(names)))

    def test_all_places_of_few(self):
        for many in range(2, 6):
            names = row_of(many)[::-1]
            rows = list(itertools.product(*[range(sit) for sit in range(many - 1, 0, -1)]))
            for begin in names:
                orders = [order_by(names, begin, places) for places in rows]
                self.assertEqual(sorted(orders), sorted(orders_from(names, begin)))
                for places, order in zip(rows, orders):
                    self.assertEqual(tuple(r for r, _ in rests_of(names, order)), places)

    def test_the_slips_say_just_these_rests(self):
        for ring in rings_of_all_lengths():
            for begin in ring.names():
                order = ring.order(begin)
                for name, (r, m) in zip(order, rests_of(ring.names(), order)):
                    self.assertEqual(ring.slip(name) % m, r)

    def test_by_name(self):
        self.assertEqual(rests_of(order=("b", "a", "c"), names=["a", "b", "c"]), ((1, 2), (0, 1)))
        self.assertEqual(order_by(places=(1, 0), begin="b", names=["a", "b", "c"]), ("b", "a", "c"))

    def test_what_is_handed_in_stays(self):
        names = ["c", "a", "b", "d"]
        self.assertEqual(rests_of(names, ("a", "b", "c", "d")), rests_of(names, ("a", "b", "c", "d")))
        order_by(names, "a", (2, 1, 0))
        number_of(names, ("a", "b", "c", "d"))
        order_at(names, "a", 5)
        self.assertEqual(names, ["c", "a", "b", "d"])


class NumbersTest(unittest.TestCase):
    def test_by_hand(self):
        names = ["a", "b", "c", "d"]
        # Its places are 1, 0, 0: one times the 2 that the figures behind it make.
        self.assertEqual(number_of(names, ("a", "c", "d", "b")), 2)
        self.assertEqual(number_of(names, ("a", "b", "c", "d")), 0)
        self.assertEqual(number_of(names, ("a", "b", "d", "c")), 1)
        self.assertEqual(number_of(names, ("a", "d", "c", "b")), 5)
        self.assertEqual(order_at(names, "a", 5), ("a", "d", "c", "b"))

    def test_all_orders_of_few(self):
        for many in range(2, 7):
            names = Mixed(many).shuffled(row_of(many))
            begin = names[many // 2]
            orders = orders_from(names, begin)
            self.assertEqual(sorted(number_of(names, order) for order in orders), list(range(len(orders))))
            self.assertEqual(len(orders), math.factorial(many - 1))
            for order in orders:
                self.assertEqual(order_at(names, begin, number_of(names, order)), order)

    def test_they_rise_as_places_do(self):
        for many in range(2, 7):
            names = row_of(many)
            orders = [order_at(names, "b", number) for number in range(math.factorial(many - 1))]
            places = [tuple(r for r, _ in rests_of(names, order)) for order in orders]
            self.assertEqual(places, sorted(places))
            self.assertEqual(len(set(places)), len(places))

    def test_the_first_figure_is_the_greatest(self):
        for many in range(2, 13):
            names = row_of(many)
            weight = math.factorial(many - 2)
            for place in range(many - 1):
                order = order_by(names, "a", (place,) + (0,) * (many - 2))
                self.assertEqual(number_of(names, order), place * weight)

    def test_first_and_last_of_all_lengths(self):
        for many in range(2, 13):
            names = row_of(many)
            for at, begin in enumerate(names):
                most = math.factorial(many - 1) - 1
                behind = names[at + 1:] + names[:at]
                self.assertEqual(order_at(names, begin, 0), (begin, *behind))
                # From place to place the greatest one is always who sits right ahead.
                self.assertEqual(order_at(names, begin, most), (begin, *behind[::-1]))
                self.assertEqual(number_of(names, (begin, *behind[::-1])), most)

    def test_some_numbers_of_many(self):
        for many in range(6, 13):
            mixed = Mixed(many + 50)
            for _ in range(30):
                names = mixed.shuffled(row_of(many))
                number = mixed.below(math.factorial(many - 1))
                order = order_at(tuple(names), names[0], number)
                self.assertEqual(number_of(names, order), number)
                figures = 0
                for r, m in rests_of(names, order):
                    figures += r * math.factorial(m - 1)
                self.assertEqual(figures, number)

    def test_by_name(self):
        self.assertEqual(number_of(order=("a", "c", "d", "b"), names=["a", "b", "c", "d"]), 2)
        self.assertEqual(order_at(number=2, begin="a", names=["a", "b", "c", "d"]), ("a", "c", "d", "b"))


class RefusedTest(unittest.TestCase):
    def test_no_ring_is_ahead(self):
        for names in NO_ROWS:
            for order, begin, number in ((("a", "b"), "a", 0), (None, ["z"], -1)):
                with self.subTest(names=names):
                    with self.assertRaises(NoRing):
                        rests_of(names, order)
                    with self.assertRaises(NoRing):
                        number_of(names, order)
                    with self.assertRaises(NoRing):
                        order_by(names, begin, (0,))
                    with self.assertRaises(NoRing):
                        order_by(names, begin, None)
                    with self.assertRaises(NoRing):
                        order_at(names, begin, number)

    def test_no_name(self):
        for thing in NO_NAMES + ["d", "abc", ["a"], ("a",), {"a": 1}]:
            for ask in (lambda name: order_by(["a", "b", "c"], name, (0, 0)),
                        lambda name: order_by(("a", "b", "c"), name, None),
                        lambda name: order_at(["a", "b", "c"], name, 0),
                        lambda name: order_at(("a", "b", "c"), name, None)):
                with self.subTest(thing=thing), self.assertRaises(NoName) as caught:
                    ask(thing)
                self.assertIs(caught.exception.name, thing)

    def test_no_order(self):
        for thing in NO_ORDERS:
            for names in (["a", "b", "c"], ("c", "b", "a")):
                with self.subTest(thing=thing):
                    with self.assertRaises(NoOrder):
                        rests_of(names, thing)
                    with self.assertRaises(NoOrder):
                        number_of(names, thing)

    def test_no_places(self):
        for thing in NO_PLACES:
            with self.subTest(thing=thing), self.assertRaises(NoOrder):
                order_by(["a", "b", "c"], "a", thing)

    def test_places_each_just_below_and_at_its_bound(self):
        for many in range(2, 13):
            names = row_of(many)
            bounds = list(range(many - 1, 0, -1))
            self.assertEqual(len(order_by(names, "a", tuple(bound - 1 for bound in bounds))), many)
            for at, bound in enumerate(bounds):
                for wrong in (bound, -1, False):
                    places = [0] * (many - 1)
                    places[at] = wrong
                    with self.assertRaises(NoOrder):
                        order_by(names, "a", tuple(places))

    def test_no_number(self):
        for many in range(2, 13):
            most = math.factorial(many - 1)
            for thing in (-1, most, most + 1, HUGE, -HUGE, *NO_NUMBERS):
                with self.subTest(many=many, thing=thing), self.assertRaises(NoNumber):
                    order_at(row_of(many), "b", thing)


if __name__ == "__main__":
    unittest.main()
