"""[2.1] rings: hands, slips, rounds and where the next one begins."""

import itertools
import unittest

from goersay.errors import NoName, NoNumber, NoRing
from goersay.rings import FEWEST, MOST, Ring

from rounds import HUGE, ring_of, round_by_words, row_of
from things import ANYTHING, NO_NAMES, NO_NUMBERS, NO_ROWS


class MakingTest(unittest.TestCase):
    def test_bounds(self):
        self.assertEqual((FEWEST, MOST), (2, 12))
        for many in range(16):
            names = row_of(many)
            slips = {name: 0 for name in names}
            if 2 <= many <= 12:
                self.assertEqual(len(Ring(names, slips)), many)
            else:
                with self.assertRaises(NoRing):
                    Ring(names, slips)

    def test_no_list_of_unlike_names(self):
        for names in NO_ROWS:
            for slips in ({"a": 1, "b": 2}, {}, None):
                with self.subTest(names=names), self.assertRaises(NoRing):
                    Ring(names, slips)

    def test_no_dict_of_just_these_to_numbers(self):
        wrong = [{"a": 1}, {"b": 1}, {"a": 1, "b": 2, "c": 3}, {"a": 1, "c": 3}, {"a": 1, "b": True},
                 {"a": 1, "b": None}, {"a": 1, "b": "2"}, {"a": 1, "b": [2]}, {"a": 1, 0: 2}, {"a": 1, ("b",): 2},
                 [("a", 1), ("b", 2)], [1, 2], "ab", ["a", "b"], {"a": 1, "b": 2, 0: 3}, {"a": 1, "B": 2}]
        for slips in wrong + ANYTHING + [{"a": 1, "b": thing} for thing in NO_NUMBERS]:
            with self.subTest(slips=slips), self.assertRaises(NoRing):
                Ring(["a", "b"], slips)

    def test_a_tuple_and_names_of_arguments(self):
        ring = Ring(slips={"b": 2, "a": 1}, names=("a", "b"))
        self.assertEqual(ring, Ring(["a", "b"], {"a": 1, "b": 2}))
        self.assertEqual(ring.names(), ["a", "b"])
        self.assertIsInstance(ring.names(), list)

    def test_what_is_handed_in_stays_and_may_be_changed_later(self):
        names, slips = ["b", "a", "c"], {"c": 3, "a": 1, "b": 2}
        ring = Ring(names, slips)
        ring.order("a")
        ring.with_slip("a", 9)
        self.assertEqual(names, ["b", "a", "c"])
        self.assertEqual(list(slips.items()), [("c", 3), ("a", 1), ("b", 2)])
        names.reverse()
        names.append("d")
        slips["a"] = 7
        del slips["b"]
        self.assertEqual(ring.names(), ["b", "a", "c"])
        self.assertEqual(ring.slips(), {"b": 2, "a": 1, "c": 3})
        self.assertEqual(ring.order("b"), ("b", "a", "c"))


class TellingTest(unittest.TestCase):
    def test_names_and_slips_by_seats(self):
        ring = Ring(["c", "a", "b"], {"a": -1, "b": HUGE, "c": 0})
        self.assertEqual(ring.names(), ["c", "a", "b"])
        self.assertEqual(list(ring.slips().items()), [("c", 0), ("a", -1), ("b", HUGE)])
        self.assertEqual([ring.slip(name) for name in "abc"], [-1, HUGE, 0])
        self.assertEqual(ring.slip(name="b"), HUGE)
        self.assertEqual(len(ring), 3)

    def test_told_lists_and_dicts_are_new_ones(self):
        ring = ring_of(1, 2, 3)
        ring.names().clear()
        ring.slips()["a"] = 5
        ring.slips().clear()
        self.assertEqual(ring, ring_of(1, 2, 3))
        self.assertIsNot(ring.names(), ring.names())
        self.assertIsNot(ring.slips(), ring.slips())

    def test_no_name(self):
        ring = ring_of(1, 2, 3)
        for thing in NO_NAMES + ["d", "abc", ["a"], ("a",), {"a": 1}]:
            for ask in (ring.slip, ring.order, ring.next_of, lambda name: ring.with_slip(name, 1),
                        lambda name: ring.with_slip(name, None)):
                with self.subTest(thing=thing), self.assertRaises(NoName) as caught:
                    ask(thing)
                self.assertIs(caught.exception.name, thing)
        self.assertEqual(ring, ring_of(1, 2, 3))

    def test_equal(self):
        ring = ring_of(1, 2, 3)
        self.assertTrue(ring == ring_of(1, 2, 3))
        self.assertFalse(ring != ring_of(1, 2, 3))
        self.assertTrue(ring == Ring(("a", "b", "c"), {"c": 3, "b": 2, "a": 1}))
        for other in (ring_of(1, 2, 4), ring_of(1, 2, 9), ring_of(1, 2), ring_of(1, 2, 3, 4),
                      Ring(["b", "c", "a"], ring.slips()), Ring(["a", "b", "d"], {"a": 1, "b": 2, "d": 3}),
                      ring.names(), ring.slips(), (ring.names(), ring.slips()), *ANYTHING):
            self.assertIs(ring == other, False)
            self.assertIs(ring != other, True)
            self.assertIs(other == ring, False)


class WithSlipTest(unittest.TestCase):
    def test_it_follows_its_own_slips(self):
        ring = ring_of(0, 0, 0)
        other = ring.with_slip("a", 1)
        self.assertEqual(ring.order("a"), ("a", "b", "c"))
        self.assertEqual(other.order("a"), ("a", "c", "b"))
        self.assertEqual(ring, ring_of(0, 0, 0))
        self.assertEqual(other, ring_of(1, 0, 0))
        self.assertEqual(list(other.slips()), ["a", "b", "c"])
        self.assertEqual(other.with_slip(name="a", number=0), ring)

    def test_the_next_begin_follows_it_too(self):
        ring = ring_of(0, 0, 0)
        self.assertEqual([ring.with_slip("c", k).next_of("a") for k in range(-1, 4)], ["c", "a", "b", "c", "a"])
        self.assertEqual(ring.next_of("a"), "a")

    def test_refused(self):
        ring = ring_of(0, 0)
        for thing in NO_NUMBERS:
            with self.assertRaises(NoNumber):
                ring.with_slip("a", thing)
        self.assertEqual(ring, ring_of(0, 0))


class RoundTest(unittest.TestCase):
    def test_by_hand(self):
        # a counts on 1 over b c d: c; c counts on 0 over d b: d; then b, who counts on 6 over c d a b: a.
        ring = ring_of(1, 6, 4, -7)
        self.assertEqual(ring.order("a"), ("a", "c", "d", "b"))
        self.assertEqual(ring.next_of("a"), "a")
        self.assertIsInstance(ring.order("a"), tuple)

    def test_slips_of_0_go_round_by_seats(self):
        for many in range(2, 13):
            names = row_of(many)
            ring = Ring(names, {name: 0 for name in names})
            for at, begin in enumerate(names):
                self.assertEqual(ring.order(begin), tuple(names[at:] + names[:at]))
                self.assertEqual(ring.next_of(begin), begin)

    def test_the_last_one_s_own_hand_is_counted_last(self):
        for many in range(2, 13):
            names = row_of(many)
            slips = {name: 0 for name in names}
            last = names[-1]
            for k in (many - 1, -1, 2 * many - 1, -1 - many):
                self.assertEqual(Ring(names, {**slips, last: k}).next_of("a"), last)

    def test_of_two(self):
        for one, other in itertools.product(range(-3, 4), repeat=2):
            ring = ring_of(one, other)
            self.assertEqual(ring.order("a"), ("a", "b"))
            self.assertEqual(ring.order("b"), ("b", "a"))
            self.assertEqual(ring.next_of("a"), "ab"[other % 2])
            self.assertEqual(ring.next_of("b"), "ba"[one % 2])

    def assert_rounds(self, slips):
        names = row_of(len(slips))
        ring = ring_of(*slips)
        for at, begin in enumerate(names):
            gone, following = round_by_words(slips, at)
            self.assertEqual(ring.order(begin), tuple(names[seat] for seat in gone))
            self.assertEqual(ring.next_of(begin), names[following])

    def test_all_small_rings(self):
        for slips in itertools.product(range(6), repeat=3):
            self.assert_rounds(slips)
        for slips in itertools.product(range(-5, 7, 2), repeat=4):
            self.assert_rounds(slips)

    def test_rings_of_all_lengths(self):
        for many in range(2, 13):
            for turn in range(40):
                self.assert_rounds([(at * at * 7 + turn * 13 + at * turn) * (-1) ** (at + turn) for at in range(many)])
                self.assert_rounds([(-1) ** at * 3 ** (90 + (at * 5 + turn) % 35) for at in range(many)])

    def test_by_name(self):
        ring = ring_of(1, 6, 4, -7)
        self.assertEqual(ring.order(begin="a"), ("a", "c", "d", "b"))
        self.assertEqual(ring.next_of(begin="a"), "a")

    def test_asking_changes_nothing(self):
        ring = ring_of(1, 6, 4, -7)
        told = [(ring.order(begin), ring.next_of(begin)) for begin in "abcd"]
        self.assertEqual([(ring.order(begin), ring.next_of(begin)) for begin in "abcd"], told)
        self.assertEqual(ring, ring_of(1, 6, 4, -7))


if __name__ == "__main__":
    unittest.main()
