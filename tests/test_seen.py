"""[5.1] seen: what a sighting is, what it says, and what is seen of a round."""

import itertools
import unittest

from goersay.errors import NoName, NoNumber, NoSighting
from goersay.rests import has
from goersay.rings import Ring
from goersay.seen import ALL, is_sighting, says, sighting_of

from rounds import HUGE, Mixed, rests_by_words, ring_of, rings_of_all_lengths, row_of
from things import ANYTHING, NO_NAMES, NO_NUMBERS, NO_ROWS, nested

ABC = ("a", "b", "c")
SOME = [
    (ABC, ("a",), None), (ABC, ("c", "a"), None), (ABC, ("b", "a", "c"), None), (ABC, ("b", "a", "c"), "a"),
    (ABC, ("b", "a", "c"), "b"), (ABC, ("b", "a", "c"), "c"), (("b", "a"), ("a", "b"), "a"),
    (tuple("lkjihgfedcba"), tuple("abcdefghijkl"), "l"), (("zzzzzzzz", "y"), ("y",), None),
]
NO_SIGHTINGS = ANYTHING + [
    list(SOME[0]), (ABC, ("a",)), (ABC, ("a",), None, None), ((ABC, ("a",), None),), (list(ABC), ("a",), None),
    (ABC, ["a"], None), (ABC, (), None), (ABC, (), "a"), (ABC, ("a", "a"), None), (ABC, ("a", "b", "a"), "a"),
    (ABC, ("a", "b", "c", "a"), None), (ABC, ("d",), None), (ABC, ("a", "d"), None), (ABC, ("a",), "b"),
    (ABC, ("a", "b"), "c"), (ABC, ("a", "b", "c"), "d"), (ABC, ("a", "b", "c"), ""), (ABC, ("a", "b", "c"), 0),
    (ABC, ("a", "b", "c"), True), (ABC, ("a", "b", "c"), False), (ABC, ("a",), False), (ABC, ("a",), True),
    (ABC, ("a", "b", "c"), ["a"]), (ABC, ("a", "b", "c"), ("a",)), (ABC, ("a", "b", "c"), {"a": 1}),
    (ABC, "a", None), (ABC, "abc", None), ("abc", ("a",), None), (ABC, ("a", None), None), (ABC, (["a"],), None),
    (ABC, ("a", {"b": 1}), None), (ABC, (("a", "b"),), None), ({"a": 1, "b": 2}, ("a",), None), (ABC, None, None),
    (None, ("a",), None), (None, None, None), (ABC, {"a": 1}, None), (("a", "b", "a"), ("a",), None),
    (tuple("abcdefghijklm"), ("a",), None), (("a",), ("a",), None), ((), (), None), (ABC, ABC, ABC), "abc",
    {0: ABC, 1: ("a",), 2: None}, (nested(19), ("a",), None), (ABC, nested(19), None), (ABC, ABC, nested(19)),
    (("a", nested(18)), ("a",), None), (ABC, ("a", nested(18)), None), (nested(19), nested(19), nested(19)),
    (ABC, (0,), None), (ABC, (True, "a"), None), (("a", "B"), ("a",), None), (("a", ""), ("a",), None),
]


class KindsTest(unittest.TestCase):
    def test_some_are(self):
        for thing in SOME:
            self.assertIs(is_sighting(thing), True, thing)

    def test_others_are_not(self):
        for thing in NO_SIGHTINGS:
            self.assertIs(is_sighting(thing), False, thing)

    def test_names_are_a_tuple_as_a_ring_has_them(self):
        for thing in NO_ROWS:
            self.assertIs(is_sighting((thing, ("a",), None)), False, thing)
            if isinstance(thing, list):
                self.assertIs(is_sighting((tuple(thing), ("a",), None)), False, thing)

    def test_anything_in_any_place(self):
        for thing in ANYTHING + [[thing] for thing in SOME] + [(thing,) for thing in SOME]:
            wished = thing is None
            self.assertIs(is_sighting((ABC, thing, None)), False, thing)
            self.assertIs(is_sighting((ABC, ("b", "a", "c"), thing)), wished or thing == "a", thing)
            self.assertIs(is_sighting((ABC, ("b", "a"), thing)), wished, thing)
            self.assertIs(is_sighting((ABC, ("b", thing), None)), thing == "a", thing)
            self.assertIs(is_sighting((("b", thing, "c"), ("b",), None)), thing == "a", thing)

    def test_all_of_three(self):
        row = ["a", "b", "c", "d", None]
        for many in range(4):
            for goers in itertools.product("abcd", repeat=many):
                for then in row:
                    good = many > 0 and set(goers) <= set("abc") and len(set(goers)) == many
                    good = good and (then is None or (then != "d" and many == 3))
                    self.assertIs(is_sighting((ABC, goers, then)), good, (goers, then))

    def test_by_name(self):
        self.assertIs(is_sighting(thing=SOME[0]), True)


class SaysTest(unittest.TestCase):
    def test_by_hand(self):
        names = ("a", "b", "c", "d")
        self.assertEqual(says((names, ("a", "c", "d", "b"), "a")), [("a", (1, 3)), ("c", (0, 2)), ("b", (2, 4))])
        self.assertEqual(says((names, ("a", "c", "d", "b"), "b")), [("a", (1, 3)), ("c", (0, 2)), ("b", (3, 4))])
        self.assertEqual(says((names, ("a", "c", "d", "b"), None)), [("a", (1, 3)), ("c", (0, 2))])
        self.assertEqual(says((names, ("a", "c", "d"), None)), [("a", (1, 3)), ("c", (0, 2))])
        self.assertEqual(says((names, ("a", "c"), None)), [("a", (1, 3))])
        self.assertEqual(says((names, ("a",), None)), [])
        self.assertEqual(says((("a", "b"), ("a", "b"), None)), [])
        self.assertEqual(says((("a", "b"), ("a", "b"), "a")), [("b", (0, 2))])

    def assert_says(self, sighting):
        names, goers, then = sighting
        rests = rests_by_words(list(names), goers, then)
        told = says(sighting)
        self.assertIsInstance(told, list)
        self.assertEqual(told, [(name, rests[name]) for name in goers if name in rests and rests[name] != (0, 1)])

    def test_all_of_few(self):
        for many in range(2, 6):
            names = tuple(row_of(many)[::-1])
            for order in itertools.permutations(names):
                for seen in range(1, many + 1):
                    self.assert_says((names, order[:seen], None))
                for then in names:
                    self.assert_says((names, order, then))

    def test_some_of_many(self):
        for many in range(6, 13):
            mixed = Mixed(many)
            for _ in range(20):
                names, order = tuple(mixed.shuffled(row_of(many))), tuple(mixed.shuffled(row_of(many)))
                self.assert_says((names, order, mixed.one_of(names)))
                self.assert_says((names, order[:mixed.between(1, many)], None))

    def test_the_slips_have_what_is_said(self):
        for ring in rings_of_all_lengths():
            for begin in ring.names():
                told = says(sighting_of(ring, begin, then=True))
                self.assertEqual(len(told), len(ring) - 1)
                for name, rest in told:
                    self.assertTrue(has(rest, ring.slip(name)))

    def test_told_lists_are_new_ones(self):
        for sighting in SOME:
            told = says(sighting)
            kept = list(told)
            told.append("z")
            self.assertEqual(says(sighting=sighting), kept)

    def test_refused(self):
        for thing in NO_SIGHTINGS:
            with self.subTest(thing=thing), self.assertRaises(NoSighting) as caught:
                says(thing)
            self.assertEqual(caught.exception.at, 0)


class SightingOfTest(unittest.TestCase):
    def test_by_hand(self):
        ring = ring_of(1, 6, 4, -7)
        names = ("a", "b", "c", "d")
        self.assertEqual(sighting_of(ring, "a"), (names, ("a", "c", "d", "b"), None))
        self.assertEqual(sighting_of(ring, "a", many=2), (names, ("a", "c"), None))
        self.assertEqual(sighting_of(ring, "a", then=True), (names, ("a", "c", "d", "b"), "a"))
        self.assertEqual(ALL, 0)

    def test_all_of_all_lengths(self):
        for ring in rings_of_all_lengths(each=2):
            names, n = tuple(ring.names()), len(ring)
            for begin in names:
                order, following = ring.order(begin), ring.next_of(begin)
                for many in range(n + 1):
                    goers = order if many == 0 else order[:many]
                    self.assertEqual(sighting_of(ring, begin, many=many), (names, goers, None))
                    self.assertEqual(sighting_of(ring, begin, many=many, then=False), (names, goers, None))
                    then = following if many in (0, n) else None
                    told = sighting_of(ring, begin, many=many, then=True)
                    self.assertEqual(told, (names, goers, then))
                    self.assertIs(is_sighting(told), True)

    def test_then_counts_where_it_is_true_itself_alone(self):
        ring = ring_of(1, 6, 4, -7)
        for thing in [1, 2, "True", "a", [True], (True,), {True: True}, -1, HUGE] + ANYTHING:
            wished = "a" if thing is True else None
            self.assertEqual(sighting_of(ring, "a", then=thing)[2], wished, thing)
            self.assertEqual(sighting_of(ring, "a", then=thing, many=4)[2], wished, thing)
            self.assertIsNone(sighting_of(ring, "a", then=thing, many=3)[2])

    def test_by_name(self):
        ring = ring_of(1, 6, 4, -7)
        self.assertEqual(sighting_of(then=True, many=ALL, begin="a", ring=ring), sighting_of(ring, "a", then=True))
        with self.assertRaises(TypeError):
            sighting_of(ring, "a", 2)
        with self.assertRaises(TypeError):
            sighting_of(ring, "a", 2, True)

    def test_the_ring_stays(self):
        ring = Ring(["b", "a"], {"a": 1, "b": 2})
        sighting_of(ring, "a", then=True)
        self.assertEqual(ring, Ring(["b", "a"], {"a": 1, "b": 2}))

    def test_no_name_is_ahead(self):
        ring = ring_of(1, 2, 3)
        for thing in NO_NAMES + ["d", ["a"], ("a",), {"a": 1}]:
            for many in (ALL, 3, 4, -1, None, True):
                with self.subTest(thing=thing, many=many), self.assertRaises(NoName) as caught:
                    sighting_of(ring, thing, many=many, then=True)
                self.assertIs(caught.exception.name, thing)

    def test_no_number(self):
        for many in range(2, 13):
            ring = ring_of(*range(many))
            for thing in (-1, many + 1, many + 2, HUGE, -HUGE, *NO_NUMBERS):
                with self.subTest(many=many, thing=thing), self.assertRaises(NoNumber):
                    sighting_of(ring, "a", many=thing)


if __name__ == "__main__":
    unittest.main()
