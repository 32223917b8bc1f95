"""[6.1], [6.2], [0.2] (b): what is known by sightings, which clash, and what may be asked of it."""

import itertools
import math
import unittest

from goersay.errors import Clash, NoName, NoRest, NoRing, NoSighting
from goersay.known import Known, first_clash, is_clash, of_rests
from goersay.rings import Ring
from goersay.seen import sighting_of

from rounds import HUGE, Mixed, rests_by_words, row_of
from test_seen import NO_SIGHTINGS
from things import ANYTHING, NO_NAMES, NO_NUMBERS, NO_RESTS, NO_ROWS

ABC = ("a", "b", "c")
# Of c they say 0 by 2, nothing, 0 by 3, and 1 by 2.
C_0_BY_2 = (ABC, ("c", "a", "b"), None)
NOTHING_SAID = (ABC, ("c",), None)
C_0_BY_3 = (ABC, ("b", "a", "c"), "a")
C_1_BY_2 = (ABC, ("c", "b", "a"), None)
STRANGE = [
    (("a", "b"), ("a",), None), (("a", "b", "d"), ("a",), None), (("a", "b", "c", "d"), ("a",), None),
    (("d", "e", "f"), ("d",), None), (("c", "b"), ("b", "c"), "b"),
]


def period_of(many):
    return math.lcm(*range(1, many + 1))


def random_sighting(mixed, names, ring=None):
    """A sighting of these names, seated anyhow; of a round of these slips, or of none that is known."""
    seats = mixed.shuffled(names)
    if ring is None:
        order = tuple(mixed.shuffled(names))
        many = mixed.between(1, len(names))
        then = mixed.one_of([*seats, None]) if many == len(names) else None
        return (tuple(seats), order[:many], then)
    there = Ring(seats, ring.slips())
    return sighting_of(there, mixed.one_of(seats), many=mixed.below(len(names) + 1), then=mixed.one_of([True, False]))


class Shadow:
    """What matches: of each name all numbers below a period that leave what each sighting says."""

    def __init__(self, names, period):
        self.fitting = {name: set(range(period)) for name in names}
        self.period = period
        self.told = []

    def matching(self, sighting):
        names, goers, then = sighting
        told = rests_by_words(list(names), goers, then)
        return {name: {x for x in range(self.period) if x % m == r} for name, (r, m) in told.items()}

    def clash(self, sighting):
        """None, or the fields of the Clash that this one has to bring."""
        told = self.matching(sighting)
        for name in sighting[1]:
            if name in told and not self.fitting[name] & told[name]:
                against = [at for at, ahead in enumerate(self.told) if name in ahead and not ahead[name] & told[name]]
                return name, (against + [-1])[0], len(self.told)
        return None

    def see(self, sighting):
        told = self.matching(sighting)
        more = [name for name in told if not self.fitting[name] <= told[name]]
        for name in more:
            self.fitting[name] &= told[name]
        self.told.append(told)
        return sorted(more)


class SeeingTest(unittest.TestCase):
    def test_nothing_is_known_at_first(self):
        for many in range(2, 13):
            known = Known(row_of(many))
            self.assertEqual(list(known.rests().items()), [(name, (0, 1)) for name in row_of(many)])
            self.assertEqual(known.seen(), [])

    def test_by_hand(self):
        known = Known(["c", "a", "b"])
        # Of a c b: c went at place 1 by 2 behind a; b, who began next, at place 1 by 3 behind c, who sits last.
        self.assertEqual(known.see((("a", "b", "c"), ("a", "c", "b"), "a")), ["a", "b"])
        self.assertEqual(known.rests(), {"c": (0, 1), "a": (1, 2), "b": (1, 3)})
        # Seated otherwise, a at place 0 by 3 behind c, then nothing new of c.
        self.assertEqual(known.see((("b", "a", "c"), ("a", "b", "c"), "b")), ["c"])
        self.assertEqual(known.rests(), {"c": (0, 3), "a": (1, 2), "b": (1, 3)})
        self.assertEqual(known.see((("a", "b", "c"), ("b", "a"), None)), ["b"])
        self.assertEqual(known.rest("b"), (1, 6))

    def test_it_tells_names_that_rise(self):
        known = Known(["c", "b", "a"])
        self.assertEqual(known.see((("c", "b", "a"), ("c", "b", "a"), "c")), ["a", "c"])
        self.assertEqual(known.see((("c", "b", "a"), ("c", "b", "a"), "c")), [])
        self.assertEqual(len(known.seen()), 2)

    def assert_as_shadow(self, known, shadow):
        for name, (r, m) in known.rests().items():
            self.assertEqual(known.rest(name), (r, m))
            self.assertEqual(shadow.period % m, 0)
            self.assertEqual({x for x in range(shadow.period) if x % m == r}, shadow.fitting[name])

    def assert_sees(self, names, sightings):
        known, shadow, seen = Known(names), Shadow(names, period_of(len(names))), []
        for sighting in sightings:
            wished = shadow.clash(sighting)
            if wished is None:
                self.assertEqual(known.see(sighting), shadow.see(sighting))
                seen.append(sighting)
            else:
                with self.assertRaises(Clash) as caught:
                    known.see(sighting)
                clash = caught.exception
                self.assertEqual((clash.name, clash.one, clash.other), wished)
                self.assertGreaterEqual(clash.one, 0)
            self.assertEqual(known.seen(), seen)
        self.assert_as_shadow(known, shadow)

    def test_what_is_known_matches_all_that_was_seen(self):
        for many in range(2, 7):
            for turn in range(25):
                mixed = Mixed(many * 1000 + turn)
                names = mixed.shuffled(row_of(many))
                ring = mixed.ring(many)
                self.assert_sees(names, [random_sighting(mixed, names, ring) for _ in range(6)])
                self.assert_sees(names, [random_sighting(mixed, names) for _ in range(8)])

    def test_of_many_names(self):
        for many in (7, 8, 9):
            mixed = Mixed(many)
            ring = mixed.ring(many)
            self.assert_sees(row_of(many), [random_sighting(mixed, row_of(many), ring) for _ in range(5)])
            self.assert_sees(row_of(many), [random_sighting(mixed, row_of(many)) for _ in range(5)])

    def test_of_twelve_names(self):
        mixed = Mixed(12)
        self.assert_sees(row_of(12), [random_sighting(mixed, row_of(12), mixed.ring(12))])
        self.assert_sees(row_of(12), [random_sighting(mixed, row_of(12)) for _ in range(3)])

    def test_true_slips_fit_however_much_was_seen(self):
        for many in range(2, 13):
            mixed = Mixed(many + 7)
            ring = mixed.ring(many)
            known = Known(ring.names())
            for k in range(40):
                ahead = known.rests()
                more = known.see(random_sighting(mixed, ring.names(), ring))
                changed = [name for name in sorted(ahead) if ahead[name] != known.rest(name)]
                self.assertEqual(more, changed)
                self.assertTrue(known.fits(ring.slips()))
            self.assertEqual(len(known.seen()), 40)


class ClashTest(unittest.TestCase):
    def assert_clash(self, known, sighting, wished):
        ahead = known.twin()
        seen = known.seen()
        for _ in range(2):
            with self.assertRaises(Clash) as caught:
                known.see(sighting)
            clash = caught.exception
            self.assertEqual((clash.name, clash.one, clash.other), wished)
            self.assertEqual(known, ahead)
            self.assertEqual(known.seen(), seen)

    def test_the_first_sighting_ahead_that_contradicts(self):
        known = Known(["a", "b", "c"])
        for sighting in (C_0_BY_3, NOTHING_SAID, C_0_BY_2, C_0_BY_2):
            known.see(sighting)
        self.assertEqual(known.rest("c"), (0, 6))
        self.assert_clash(known, C_1_BY_2, ("c", 2, 4))

    def test_the_first_name_as_they_went(self):
        known = Known(["a", "b", "c"])
        known.see((ABC, ("a", "b", "c"), "a"))
        known.see((ABC, ("b", "c", "a"), "a"))
        known.see(C_0_BY_2)
        self.assertEqual(known.rests(), {"a": (2, 6), "b": (0, 2), "c": (0, 6)})
        # It says otherwise of c by 2, then of a by 3; no name ahead of c went ahead of it.
        self.assert_clash(known, (ABC, ("c", "b", "a"), "b"), ("c", 2, 3))
        self.assert_clash(known, (ABC, ("a", "c", "b"), None), ("a", 0, 3))
        self.assert_clash(known, (ABC, ("b", "a", "c"), "b"), ("b", 1, 3))
        self.assert_clash(known, (ABC, ("b", "c", "a"), "b"), ("a", 1, 3))

    def test_by_all_moduli(self):
        for many in range(3, 13):
            names = row_of(many)
            for then in names[:-1]:
                known = Known(names)
                known.see((tuple(names), tuple(names), names[-1]))
                self.assert_clash(known, (tuple(names), tuple(names), then), (names[-1], 0, 1))

    def test_of_rests_alone_no_sighting_contradicts(self):
        known = of_rests(["a", "b", "c"], {"a": (0, 1), "b": (0, 1), "c": (1, 2)})
        self.assert_clash(known, C_0_BY_2, ("c", -1, 0))
        known.see(NOTHING_SAID)
        self.assert_clash(known, C_0_BY_2, ("c", -1, 1))
        known.see(C_0_BY_3)
        known.see(C_1_BY_2)
        # Now one that it saw contradicts it, too.
        self.assert_clash(known, C_0_BY_2, ("c", 2, 3))

    def test_of_rests_with_what_two_sightings_say_apart(self):
        # 4 by 6 is 0 by 2 and 1 by 3; that a is 0 by 3 contradicts what was known at first, not what was seen.
        known = of_rests(["a", "b", "c"], {"a": (4, 6), "b": (0, 1), "c": (0, 1)})
        self.assert_clash(known, (ABC, ("a", "c", "b"), None), ("a", -1, 0))
        known.see((ABC, ("a", "b"), None))
        self.assert_clash(known, (ABC, ("b", "c", "a"), "b"), ("a", -1, 1))

    def test_rests_of_many_figures(self):
        known = of_rests(["a", "b", "c"], {"a": (0, 1), "b": (0, 1), "c": (HUGE - 1, 2 * HUGE)})
        self.assertEqual((HUGE - 1) % 2, 0)
        self.assert_clash(known, C_1_BY_2, ("c", -1, 0))
        # It says nothing new, but is seen.
        self.assertEqual(known.see(C_0_BY_2), [])
        self.assert_clash(known, C_1_BY_2, ("c", 0, 1))
        self.assertEqual(known.see(C_0_BY_3), ["b", "c"])
        r, m = known.rest("c")
        self.assertEqual((r % 3, r % (2 * HUGE), m), (0, HUGE - 1, 6 * HUGE))


class RefusedTest(unittest.TestCase):
    def test_no_ring(self):
        for names in NO_ROWS:
            with self.subTest(names=names):
                with self.assertRaises(NoRing):
                    Known(names)
                for rests in ({"a": (0, 1), "b": (0, 1)}, None):
                    with self.assertRaises(NoRing):
                        of_rests(names, rests)
                for sightings in ([], None, [None], [C_0_BY_2, C_1_BY_2]):
                    with self.assertRaises(NoRing):
                        first_clash(names, sightings)
                    with self.assertRaises(NoRing):
                        is_clash(names, sightings, None)

    def test_no_sighting(self):
        known = Known(["a", "b", "c"])
        for k, sighting in enumerate([C_0_BY_2, NOTHING_SAID, C_0_BY_3, None]):
            ahead, seen = known.twin(), known.seen()
            for thing in NO_SIGHTINGS + STRANGE:
                with self.subTest(k=k, thing=thing), self.assertRaises(NoSighting) as caught:
                    known.see(thing)
                self.assertEqual(caught.exception.at, k)
            self.assertEqual(known, ahead)
            self.assertEqual(known.seen(), seen)
            if sighting is not None:
                known.see(sighting)

    def test_no_name(self):
        known = Known(["a", "b", "c"])
        for thing in NO_NAMES + ["d", "abc", ["a"], ("a",), {"a": 1}]:
            with self.subTest(thing=thing), self.assertRaises(NoName) as caught:
                known.rest(thing)
            self.assertIs(caught.exception.name, thing)

    def test_no_rests(self):
        wrong = [{"a": (0, 1)}, {"b": (0, 1), "c": (0, 1)}, {"a": (0, 1), "b": (0, 1), "c": (0, 1)},
                 {"a": (0, 1), "c": (0, 1)}, {"a": (0, 1), 0: (0, 1)}, [("a", (0, 1)), ("b", (0, 1))],
                 {"a": (0, 1), "b": (0, 1), None: 1}, (("a", (0, 1)), ("b", (0, 1))), ["a", "b"]]
        for rests in wrong + ANYTHING + [{"a": (0, 1), "b": thing} for thing in NO_RESTS]:
            with self.subTest(rests=rests), self.assertRaises(NoRest):
                of_rests(["a", "b"], rests)


class AskingTest(unittest.TestCase):
    def some(self):
        known = Known(["b", "c", "a"])
        known.see(C_0_BY_3)
        known.see(C_1_BY_2)
        return known

    def test_names_rests_and_seen(self):
        known = self.some()
        self.assertEqual(known.names(), ["b", "c", "a"])
        self.assertIsInstance(known.names(), list)
        self.assertEqual(list(known.rests()), ["b", "c", "a"])
        # b's c a: a at place 1; then c at place 0 by 1 behind a; a by 3 behind c at 0. c's b, a's last.
        self.assertEqual(known.rests(), {"b": (1, 2), "c": (3, 6), "a": (0, 1)})
        self.assertEqual([known.rest(name) for name in "abc"], [(0, 1), (1, 2), (3, 6)])
        self.assertEqual(known.seen(), [C_0_BY_3, C_1_BY_2])
        self.assertIsInstance(known.seen(), list)

    def test_told_lists_and_dicts_are_new_ones(self):
        known = self.some()
        known.names().reverse()
        known.rests()["a"] = (0, 2)
        known.rests().clear()
        known.seen().clear()
        known.least()["a"] = 5
        known.least().clear()
        more = known.see((ABC, ("a", "b"), None))
        self.assertEqual(more, ["a"])
        more.append("b")
        self.assertEqual(known.names(), ["b", "c", "a"])
        self.assertEqual(known.rests(), {"b": (1, 2), "c": (3, 6), "a": (0, 2)})
        self.assertEqual(len(known.seen()), 3)
        self.assertEqual(known.least(), {"b": 1, "c": 3, "a": 0})

    def test_what_is_handed_in_stays_and_may_be_changed_later(self):
        names = ["b", "c", "a"]
        rests = {"a": (1, 2), "b": (0, 1), "c": (2, 3)}
        known, other = Known(names), of_rests(names, rests)
        other.see((ABC, ("b", "a"), None))
        self.assertEqual(names, ["b", "c", "a"])
        self.assertEqual(list(rests.items()), [("a", (1, 2)), ("b", (0, 1)), ("c", (2, 3))])
        names.append("d")
        names.reverse()
        rests["a"] = (0, 2)
        del rests["b"]
        self.assertEqual(known.names(), ["b", "c", "a"])
        self.assertEqual(other.names(), ["b", "c", "a"])
        self.assertEqual(list(other.rests().items()), [("b", (1, 2)), ("c", (2, 3)), ("a", (1, 2))])
        slips = {"a": 1, "b": 3, "c": 2}
        self.assertTrue(other.fits(slips))
        self.assertEqual(slips, {"a": 1, "b": 3, "c": 2})
        sightings = [C_0_BY_3, C_1_BY_2, C_0_BY_2]
        first_clash(["a", "b", "c"], sightings)
        is_clash(["a", "b", "c"], sightings, ("c", 1, 2))
        self.assertEqual(sightings, [C_0_BY_3, C_1_BY_2, C_0_BY_2])

    def test_fits_just_the_slips_that_have_all_rests(self):
        known = of_rests(["a", "b"], {"a": (1, 3), "b": (2, 4)})
        for one, other in itertools.product(range(-7, 8), repeat=2):
            wished = one % 3 == 1 and other % 4 == 2
            self.assertIs(known.fits({"a": one, "b": other}), wished)
            self.assertIs(known.fits({"b": other, "a": one}), wished)
        self.assertIs(known.fits({"a": 1 + 3 * HUGE, "b": 2 - 4 * HUGE}), True)

    def test_fits_of_anything(self):
        known = of_rests(["a", "b"], {"a": (1, 3), "b": (0, 1)})
        wrong = [{"a": 1}, {"b": 0}, {"a": 1, "b": 0, "c": 0}, {"a": 1, "c": 0}, {"a": 1, 0: 0}, {"a": True, "b": 0},
                 [("a", 1), ("b", 0)], [1, 0], ("a", "b"), {"a": 1, "b": 0, None: 0}, {("a",): 1, "b": 0}]
        for thing in wrong + ANYTHING + [{"a": 1, "b": thing} for thing in NO_NUMBERS]:
            self.assertIs(known.fits(thing), False, thing)
            self.assertIs(Known(["a", "b"]).fits(thing), False, thing)
        self.assertIs(known.fits(slips={"a": 1, "b": 0}), True)

    def test_least(self):
        known = of_rests(["b", "a"], {"a": (HUGE - 1, HUGE), "b": (2, 3)})
        self.assertEqual(list(known.least().items()), [("b", 2), ("a", HUGE - 1)])
        for many in range(2, 13):
            mixed = Mixed(many)
            ring, known = mixed.ring(many), Known(row_of(many))
            for _ in range(3):
                known.see(random_sighting(mixed, row_of(many), ring))
            told = known.least()
            self.assertTrue(known.fits(told))
            for name, number in told.items():
                self.assertEqual(known.rest(name)[0], number)
                self.assertFalse(any(known.fits({**told, name: less}) for less in range(min(number, 500))))

    def test_twin(self):
        known = self.some()
        twin = known.twin()
        self.assertIsNot(twin, known)
        self.assertEqual(twin, known)
        self.assertEqual(twin.seen(), known.seen())
        self.assertEqual(list(twin.rests().items()), list(known.rests().items()))
        twin.see((ABC, ("a", "b"), None))
        self.assertEqual(known, self.some())
        self.assertEqual(known.seen(), [C_0_BY_3, C_1_BY_2])
        self.assertNotEqual(twin, known)
        known.see((ABC, ("a", "c"), None))
        self.assertEqual(twin.seen(), [C_0_BY_3, C_1_BY_2, (ABC, ("a", "b"), None)])
        self.assertEqual(twin.rest("a"), (0, 2))
        with self.assertRaises(Clash) as caught:
            known.twin().see((ABC, ("a", "b"), None))
        self.assertEqual((caught.exception.one, caught.exception.other), (2, 3))

    def test_equal(self):
        known = self.some()
        same = of_rests(("b", "c", "a"), {"a": (0, 1), "c": (3, 6), "b": (1, 2)})
        self.assertIs(known == same, True)
        self.assertIs(known != same, False)
        self.assertEqual(same.seen(), [])
        rests = known.rests()
        for other in (of_rests(["a", "b", "c"], rests), of_rests(["b", "c", "a"], {**rests, "a": (0, 2)}),
                      of_rests(["b", "c", "a"], {**rests, "c": (3, 12)}), Known(["b", "c", "a"]), Known(["b", "c"]),
                      known.names(), rests, (known.names(), rests), Ring(["b", "c", "a"], known.least()), *ANYTHING):
            self.assertIs(known == other, False)
            self.assertIs(known != other, True)
            self.assertIs(other == known, False)

    def test_of_rests(self):
        known = of_rests(rests={"b": (1, 2), "a": (HUGE - 2, HUGE)}, names=("a", "b"))
        self.assertIsInstance(known, Known)
        self.assertEqual(known.names(), ["a", "b"])
        self.assertEqual(list(known.rests().items()), [("a", (HUGE - 2, HUGE)), ("b", (1, 2))])
        self.assertEqual(known.seen(), [])

    def test_by_name(self):
        known = Known(names=("a", "b"))
        self.assertEqual(known.see(sighting=(("b", "a"), ("a", "b"), "b")), ["b"])
        self.assertEqual(known.rest(name="b"), (1, 2))
        self.assertIs(first_clash(sightings=[], names=["a", "b"]), None)
        self.assertIs(is_clash(thing=None, sightings=[], names=["a", "b"]), False)


class ClashesTest(unittest.TestCase):
    def reference(self, names, sightings):
        shadow = Shadow(names, period_of(len(names)))
        for sighting in sightings:
            wished = shadow.clash(sighting)
            if wished is not None:
                return wished
            shadow.see(sighting)
        return None

    def assert_clashes(self, names, sightings):
        told = first_clash(names, sightings)
        self.assertEqual(told, self.reference(names, sightings))
        shadow = Shadow(names, period_of(len(names)))
        matching = [shadow.matching(sighting) for sighting in sightings]
        whole = set(range(shadow.period))
        many = len(sightings)
        for name, one, other in itertools.product(names, range(-1, many + 1), range(-1, many + 1)):
            wished = 0 <= one < other < many
            wished = wished and not matching[one].get(name, whole) & matching[other].get(name, whole)
            self.assertIs(is_clash(names, sightings, (name, one, other)), wished)
        if told is not None:
            self.assertIsInstance(told, tuple)
            self.assertLess(told[1], told[2])
            self.assertIs(is_clash(names, sightings, told), True)

    def test_first_and_all_others(self):
        found = 0
        for many in range(2, 6):
            for turn in range(15):
                mixed = Mixed(many * 77 + turn)
                names = mixed.shuffled(row_of(many))
                ring = mixed.ring(many)
                true_ones = [random_sighting(mixed, names, ring) for _ in range(4)]
                false_ones = [random_sighting(mixed, names) for _ in range(4)]
                self.assertIs(first_clash(names, true_ones), None)
                for sightings in (true_ones, false_ones, tuple(true_ones + false_ones), []):
                    self.assert_clashes(names, sightings)
                    found += first_clash(names, sightings) is not None
        self.assertGreater(found, 30)

    def test_by_hand(self):
        names = ["a", "b", "c"]
        self.assertEqual(first_clash(names, [C_0_BY_3, C_0_BY_2, C_1_BY_2]), ("c", 1, 2))
        self.assertEqual(first_clash(tuple(names), (C_0_BY_3, NOTHING_SAID)), None)
        self.assertEqual(first_clash(names, []), None)

    def test_no_sightings(self):
        names = ["a", "b", "c"]
        clash = [C_0_BY_2, C_1_BY_2]
        for asked in (lambda sightings: first_clash(names, sightings),
                      lambda sightings: is_clash(names, sightings, ("c", 0, 1)),
                      lambda sightings: is_clash(names, sightings, None)):
            for thing in NO_SIGHTINGS + STRANGE:
                # The first that is refused is told ahead of any clash.
                for at, sightings in ((0, [thing]), (2, clash + [thing]), (1, [C_0_BY_3, thing, None] + clash)):
                    with self.subTest(thing=thing, at=at), self.assertRaises(NoSighting) as caught:
                        asked(sightings)
                    self.assertEqual(caught.exception.at, at)
            for thing in ANYTHING + ["abc", {0: C_0_BY_2}, {}]:
                if thing in ([], ()):
                    continue
                with self.subTest(thing=thing), self.assertRaises(NoSighting) as caught:
                    asked(thing)
                self.assertEqual(caught.exception.at, 0)

    def test_is_clash_of_anything(self):
        names, sightings = ["a", "b", "c"], [C_0_BY_2, C_1_BY_2]
        self.assertIs(is_clash(names, sightings, ("c", 0, 1)), True)
        wrong = [["c", 0, 1], ("c", 1, 0), ("c", 0, 0), ("c", 1, 1), ("c", 0, 2), ("c", -1, 1), ("c", -2, -1),
                 ("a", 0, 1), ("d", 0, 1), ("c", False, 1), ("c", 0, True), ("c", False, True), ("c", 0), ("c",),
                 ("c", 0, 1, 2), (("c", 0, 1),), "c01", {"c": 1}, ("c", "0", "1"), ("c", None, 1), ("c", 0, None),
                 (["c"], 0, 1), ("c", [0], 1), ("c", 0, [1]), ({"c": 0}, 0, 1), (0, "c", 1), ("c", HUGE, HUGE + 1)]
        for thing in wrong + ANYTHING + [(thing, 0, 1) for thing in ANYTHING]:
            self.assertIs(is_clash(names, sightings, thing), False, thing)
        for thing in ANYTHING:
            self.assertIs(is_clash(names, sightings, ("c", 0, thing)), type(thing) is int and thing == 1, thing)
            self.assertIs(is_clash(names, sightings, ("c", thing, 1)), type(thing) is int and thing == 0, thing)


if __name__ == "__main__":
    unittest.main()
