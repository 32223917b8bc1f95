"""[9.1], [0.2] (e): slips for a wished round or for sightings, the fewest begins, the fewest goers to be seen."""

import itertools
import math
import unittest

from goersay.alike import needs
from goersay.errors import Clash, NoName, NoOrder, NoRing, NoSighting
from goersay.known import first_clash
from goersay.orders import rests_of
from goersay.rings import Ring
from goersay.wishes import changes_for, fewest_begins, fewest_eyes, slips_wished

from rounds import HUGE, Mixed, rests_by_words, ring_of, rings_of_all_lengths, round_by_words, row_of
from test_known import C_0_BY_2, C_0_BY_3, C_1_BY_2, NOTHING_SAID, STRANGE, random_sighting
from test_orders import NO_ORDERS, orders_from
from test_seen import NO_SIGHTINGS
from things import ANYTHING, NO_NAMES, NO_ROWS


def told_of(ring, begin, many):
    """A dict from hands to the modulus told where so many goers of the round from there are seen, n + 1: then, too."""
    names = ring.names()
    gone, following = round_by_words(list(ring.slips().values()), names.index(begin))
    order = [names[seat] for seat in gone]
    then = names[following] if many == len(names) + 1 else None
    return {name: m for name, (_, m) in rests_by_words(names, order[:many], then).items()}


def together(ring, rows):
    return [math.lcm(*[row.get(name, 1) for row in rows]) for name in ring.names()]


class ChangesTest(unittest.TestCase):
    def test_the_rings_own_order_needs_none(self):
        for ring in rings_of_all_lengths():
            for begin in ring.names():
                self.assertEqual(changes_for(ring, ring.order(begin)), [])

    def test_by_hand(self):
        ring = ring_of(1, 6, 4, -7)
        self.assertEqual(ring.order("a"), ("a", "c", "d", "b"))
        # c alone has to say 1 by 2; a alone has to say 0 by 3, and b leaves 0 by 2; then b has to say 1 by 2, too.
        self.assertEqual(changes_for(ring, ("a", "c", "b", "d")), ["c"])
        self.assertEqual(changes_for(ring, ("a", "b", "c", "d")), ["a"])
        self.assertEqual(changes_for(ring, ("a", "b", "d", "c")), ["a", "b"])
        # The last but one and the last one say nothing in an order.
        self.assertEqual(changes_for(ring_of(9, -9), ("b", "a")), [])

    def test_as_many_as_an_order_can(self):
        for many in range(2, 13):
            names = row_of(many)
            ring = Ring(names, {name: 0 for name in names})
            # Each goes to the one ahead of it, never to the one behind it.
            order = tuple(names[::-1])
            self.assertEqual(changes_for(ring, order), sorted(order[:many - 2]))

    def test_they_rise_as_texts_wherever_they_sit(self):
        ring = Ring(["d", "b", "c", "a"], {"a": 0, "b": 0, "c": 0, "d": 0})
        self.assertEqual(ring.order("d"), ("d", "b", "c", "a"))
        self.assertEqual(changes_for(ring, ("d", "c", "a", "b")), ["d"])
        self.assertEqual(changes_for(ring, ("d", "c", "b", "a")), ["c", "d"])
        self.assertEqual(changes_for(ring, ("d", "a", "c", "b")), ["a", "d"])

    def assert_just_these(self, ring, order):
        told = changes_for(ring, order)
        self.assertIsInstance(told, list)
        self.assertEqual(told, sorted(told))
        rests = dict(zip(order, rests_of(ring.names(), order)))
        behind = ring
        for name in told:
            behind = behind.with_slip(name, rests[name][0])
        self.assertEqual(behind.order(order[0]), order)
        # None of them could stay: with it as it was, and all others as wished, it goes otherwise.
        for name in told:
            self.assertNotEqual(behind.with_slip(name, ring.slip(name)).order(order[0]), order)

    def test_all_orders_of_few(self):
        for many in (2, 3, 4, 5):
            for turn in range(4):
                ring = Mixed(many * 7 + turn).ring(many)
                for begin in ring.names():
                    for order in orders_from(ring.names(), begin):
                        self.assert_just_these(ring, order)

    def test_some_orders_of_many(self):
        for ring in rings_of_all_lengths(each=2):
            for turn in range(20):
                self.assert_just_these(ring, tuple(Mixed(turn).shuffled(ring.names())))

    def test_none_could_stay_whatever_the_others_slips(self):
        ring = ring_of(1, 5, 3, 2)
        rings = [ring_of(*slips) for slips in itertools.product(range(6), repeat=4)]
        for order in orders_from(ring.names(), "c"):
            leading = [other for other in rings if other.order("c") == order]
            wished = [name for name in "abcd" if all(other.slip(name) != ring.slip(name) for other in leading)]
            self.assertEqual(changes_for(ring, order), wished)

    def test_no_order(self):
        for thing in NO_ORDERS + [("a", "b", "c", "d"), ("d", "e", "f")]:
            with self.subTest(thing=thing), self.assertRaises(NoOrder):
                changes_for(ring_of(1, 2, 3), thing)


class SlipsWishedTest(unittest.TestCase):
    def test_of_none(self):
        for names in (["b", "a"], ("c", "a", "b"), row_of(12)):
            for sightings in ([], ()):
                told = slips_wished(names, sightings)
                self.assertEqual(list(told.items()), [(name, 0) for name in names])

    def test_by_hand(self):
        # c says 0 by 3 and 1 by 2, b at place 1 by 2.
        told = slips_wished(["b", "c", "a"], [C_0_BY_3, NOTHING_SAID, C_1_BY_2])
        self.assertEqual(list(told.items()), [("b", 1), ("c", 3), ("a", 0)])

    def assert_least(self, names, sightings, period):
        told = slips_wished(names, sightings)
        self.assertEqual(list(told), list(names))
        for name in names:
            fitting = set(range(period))
            for seats, goers, then in sightings:
                rest = rests_by_words(list(seats), goers, then).get(name, (0, 1))
                fitting &= {number for number in range(period) if number % rest[1] == rest[0]}
            self.assertEqual(told[name], min(fitting))
        for seats, goers, then in sightings:
            ring = Ring(seats, told)
            self.assertEqual(ring.order(goers[0])[:len(goers)], goers)
            self.assertIn(then, (None, ring.next_of(goers[0])))

    def test_of_some(self):
        for many in range(2, 9):
            for turn in range(8):
                mixed = Mixed(many * 31 + turn)
                ring = mixed.ring(many)
                names = mixed.shuffled(row_of(many))
                sightings = [random_sighting(mixed, names, ring) for _ in range(turn)]
                self.assert_least(names, sightings, math.lcm(*range(1, many + 1)))

    def test_clash(self):
        found = 0
        for many in range(2, 7):
            for turn in range(12):
                mixed = Mixed(many * 13 + turn)
                names = mixed.shuffled(row_of(many))
                sightings = [random_sighting(mixed, names) for _ in range(6)]
                clash = first_clash(names, sightings)
                if clash is None:
                    self.assert_least(names, sightings, math.lcm(*range(1, many + 1)))
                    continue
                found += 1
                with self.assertRaises(Clash) as caught:
                    slips_wished(names, sightings)
                self.assertEqual((caught.exception.name, caught.exception.one, caught.exception.other), clash)
        self.assertGreater(found, 30)
        with self.assertRaises(Clash) as caught:
            slips_wished(["a", "b", "c"], [C_0_BY_3, C_0_BY_2, NOTHING_SAID, C_1_BY_2])
        self.assertEqual((caught.exception.name, caught.exception.one, caught.exception.other), ("c", 1, 3))

    def test_no_ring_is_ahead(self):
        for names in NO_ROWS:
            for sightings in ([], None, [None], [C_0_BY_2, C_1_BY_2]):
                with self.subTest(names=names), self.assertRaises(NoRing):
                    slips_wished(names, sightings)

    def test_no_sighting_is_ahead_of_any_clash(self):
        names, clash = ["a", "b", "c"], [C_0_BY_2, C_1_BY_2]
        for thing in NO_SIGHTINGS + STRANGE:
            for at, sightings in ((0, [thing]), (2, clash + [thing]), (1, [C_0_BY_3, thing, None] + clash)):
                with self.subTest(thing=thing, at=at), self.assertRaises(NoSighting) as caught:
                    slips_wished(names, sightings)
                self.assertEqual(caught.exception.at, at)
        for thing in [thing for thing in ANYTHING if thing not in ([], ())] + ["abc", {0: C_0_BY_2}]:
            if isinstance(thing, (list, tuple)) and thing:
                continue
            with self.subTest(thing=thing), self.assertRaises(NoSighting) as caught:
                slips_wished(names, thing)
            self.assertEqual(caught.exception.at, 0)


class FewestBeginsTest(unittest.TestCase):
    def lots(self, ring):
        """All lots of begins that tell as much as all rounds, of the fewest, by seats."""
        names = ring.names()
        told = {begin: told_of(ring, begin, len(names) + 1) for begin in names}
        wished = together(ring, list(told.values()))
        self.assertEqual(wished, list(needs(ring).values()))
        for many in range(len(names) + 1):
            lots = [lot for lot in itertools.combinations(names, many)
                    if together(ring, [told[begin] for begin in lot]) == wished]
            if lots:
                return lots
        raise AssertionError("all rounds tell what all rounds tell")

    def test_the_first_of_the_fewest(self):
        found = {}
        for many in range(2, 13):
            for turn in range(60 if many in (7, 11) else 4):
                ring = Mixed(many * 1009 + turn).ring(many)
                lots = self.lots(ring)
                told = fewest_begins(ring)
                self.assertIsInstance(told, list)
                # Lots of seats come with the least seats ahead.
                self.assertEqual(told, list(lots[0]))
                found.setdefault(many, set()).add((len(told), len(lots) > 1))
        # Some rings of 7 and of 11 need fewer than all begins, some more, some by several lots.
        for many in (7, 11):
            self.assertGreater(len({length for length, _ in found[many]}), 1)
            self.assertIn(True, {several for _, several in found[many]})
            self.assertIn(False, {several for _, several in found[many]})

    def test_where_all_are_needed(self):
        # A hand says by n - 1 where it begins; where that is a power of a prime it says so nowhere else.
        for many in (2, 3, 4, 5, 6, 8, 9, 10, 12):
            for turn in range(3):
                ring = Mixed(many + turn).ring(many)
                self.assertEqual(fewest_begins(ring), ring.names())

    def test_one_begin_tells_all_of_no_ring(self):
        # Each hand says by n - 1 as it begins, so all have to be told by that; no round alone tells that of all.
        for slips in itertools.product(range(6), repeat=3):
            self.assertEqual(fewest_begins(ring_of(*slips)), ["a", "b", "c"])
        for slips in itertools.product(range(2), repeat=2):
            self.assertEqual(fewest_begins(ring_of(*slips)), ["a", "b"])
        for turn in range(40):
            self.assertGreater(len(fewest_begins(Mixed(turn).ring(7))), 1)

    def test_seats_count_not_names(self):
        for turn in range(20):
            ring = Mixed(turn * 5 + 2).ring(7)
            names = ring.names()
            others = {name: letter for name, letter in zip(names, "zyxwvut")}
            twin = Ring([others[name] for name in names], {others[name]: ring.slip(name) for name in names})
            self.assertEqual(fewest_begins(twin), [others[name] for name in fewest_begins(ring)])


class FewestEyesTest(unittest.TestCase):
    def by_all_lists(self, ring, begins):
        """The least of all lists that tell as much as all these rounds whole."""
        n = len(ring)
        told = [[told_of(ring, begin, many) for many in range(n + 2)] for begin in begins]
        wished = together(ring, [rows[n + 1] for rows in told])
        lists = [numbers for numbers in itertools.product(range(n + 2), repeat=len(begins))
                 if together(ring, [rows[many] for rows, many in zip(told, numbers)]) == wished]
        return list(min(lists, key=lambda numbers: (sum(numbers), numbers)))

    def test_against_all_lists(self):
        told = []
        for many in range(2, 8):
            for turn in range(12):
                mixed = Mixed(many * 3 + turn)
                ring = mixed.ring(many)
                most = 4 if many < 5 else 3 if many < 6 else 2
                begins = [mixed.one_of(ring.names()) for _ in range(turn % most + 1)]
                numbers = fewest_eyes(ring, begins)
                self.assertIsInstance(numbers, list)
                self.assertEqual(numbers, self.by_all_lists(ring, begins), begins)
                told.append((many, begins, numbers))
        self.assertTrue(any(0 in numbers and many + 1 in numbers for many, _, numbers in told))
        self.assertTrue(any(0 < number <= many for many, _, numbers in told for number in numbers))
        self.assertEqual({len(begins) for _, begins, _ in told}, {1, 2, 3, 4})

    def test_four_of_five(self):
        for turn in range(6):
            mixed = Mixed(turn + 500)
            ring = mixed.ring(5)
            begins = tuple(mixed.one_of(ring.names()) for _ in range(4))
            self.assertEqual(fewest_eyes(ring, begins), self.by_all_lists(ring, begins))

    def test_one_begin_has_to_be_seen_whole(self):
        for ring in rings_of_all_lengths(each=2):
            for begin in ring.names():
                # Its last one says by n only where all is seen.
                self.assertEqual(fewest_eyes(ring, [begin]), [len(ring) + 1])

    def test_one_twice(self):
        for ring in rings_of_all_lengths(each=1):
            n, begin = len(ring), ring.names()[-1]
            self.assertEqual(fewest_eyes(ring, [begin, begin]), [0, n + 1])
            self.assertEqual(fewest_eyes(ring, [begin, begin, begin]), [0, 0, n + 1])
            self.assertEqual(fewest_eyes(ring, (begin,) * 4), [0, 0, 0, n + 1])

    def test_by_hand(self):
        # b c a and c b a, a beginning neither: b and c say by 2 as they begin, a by 3 in both, behind either.
        ring = ring_of(0, 0, 1)
        self.assertEqual((ring.order("b"), ring.order("c")), (("b", "c", "a"), ("c", "b", "a")))
        self.assertEqual(fewest_eyes(ring, ["b", "c"]), [2, 4])
        self.assertEqual(fewest_eyes(ring, ["c", "b"]), [2, 4])
        # Of a b c a says by 2 and c by 3: it has to be seen whole, as no other of these rounds tells c by 3.
        self.assertEqual(ring.order("a"), ("a", "b", "c"))
        self.assertEqual(fewest_eyes(ring, ["a", "b", "c"]), [4, 2, 4])
        self.assertEqual(fewest_eyes(ring, ["c", "b", "a", "c"]), [0, 2, 4, 4])

    def test_of_twelve(self):
        ring = Mixed(12).ring(12)
        n = len(ring)
        for begins in (ring.names()[:4], ring.names()[3:7]):
            told = [[told_of(ring, begin, many) for many in range(n + 2)] for begin in begins]
            wished = together(ring, [rows[n + 1] for rows in told])
            numbers = fewest_eyes(ring, begins)
            self.assertEqual(together(ring, [rows[many] for rows, many in zip(told, numbers)]), wished)
            # None of them could be less by itself.
            for at, many in enumerate(numbers):
                if many > 0:
                    less = [*numbers[:at], many - 1, *numbers[at + 1:]]
                    self.assertNotEqual(together(ring, [rows[k] for rows, k in zip(told, less)]), wished)

    def test_refused(self):
        ring = ring_of(1, 2, 3)
        for thing in [thing for thing in ANYTHING if not isinstance(thing, (list, tuple))] + ["a", {"a": 1}, 1]:
            with self.subTest(thing=thing), self.assertRaises(NoName) as caught:
                fewest_eyes(ring, thing)
            self.assertIsNone(caught.exception.name)
        for thing in ([], (), ["a"] * 5, ("a", "b", "c", "a", "b"), ["b"] * 12):
            with self.subTest(thing=thing), self.assertRaises(NoName) as caught:
                fewest_eyes(ring, thing)
            self.assertIsNone(caught.exception.name)
        for thing in NO_NAMES + ["d", ["a"], ("a",), {"a": 1}]:
            # The first that is none is told ahead of more than four.
            for begins in ([thing], ["a", thing, "e"], ("a", "b", "c", thing), ["a", "b", "c", "a", thing]):
                with self.subTest(thing=thing, begins=begins), self.assertRaises(NoName) as caught:
                    fewest_eyes(ring, begins)
                self.assertIs(caught.exception.name, thing)


class HandedTest(unittest.TestCase):
    def test_by_name(self):
        ring = ring_of(1, 6, 4, -7)
        self.assertEqual(changes_for(order=("a", "b", "c", "d"), ring=ring), ["a"])
        self.assertEqual(slips_wished(sightings=[C_0_BY_3], names=["a", "b", "c"]), {"a": 0, "b": 1, "c": 0})
        self.assertEqual(fewest_begins(ring=ring), ["a", "b", "c", "d"])
        self.assertEqual(fewest_eyes(begins=["a"], ring=ring), [5])

    def test_what_is_handed_in_stays_and_what_is_told_is_new(self):
        slips = {"a": 1, "b": 6, "c": 4, "d": -7}
        ring = Ring(["a", "b", "c", "d"], slips)
        names, sightings, begins = ["b", "c", "a"], [C_0_BY_3, C_1_BY_2], ["d", "a"]
        for _ in range(2):
            told = [changes_for(ring, ("a", "b", "c", "d")), slips_wished(names, sightings), fewest_begins(ring),
                    fewest_eyes(ring, begins)]
            self.assertEqual(told[:3], [["a"], {"b": 1, "c": 3, "a": 0}, ["a", "b", "c", "d"]])
            for thing in told:
                thing.clear()
            self.assertEqual(ring, ring_of(1, 6, 4, -7))
            self.assertEqual((names, sightings, begins), (["b", "c", "a"], [C_0_BY_3, C_1_BY_2], ["d", "a"]))

    def test_slips_of_many_figures(self):
        ring = ring_of(HUGE, -HUGE, 3 * HUGE)
        self.assertEqual(changes_for(ring, ring.order("a")), [])
        self.assertEqual(fewest_begins(ring), ["a", "b", "c"])


if __name__ == "__main__":
    unittest.main()
