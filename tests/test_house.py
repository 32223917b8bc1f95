"""[10.1], [10.3], [0.2] (f), (g): deeds, what they tell, what each watcher knows, and what is taken back."""

import unittest

from goersay.errors import GoerError, NoDeed, NoName, NoNumber, NoRing, NoWatcher, TooMany
from goersay.house import House
from goersay.known import Known, of_rests
from goersay.rings import Ring

from deeds import Shadow, fitting_by, random_deed
from rounds import HUGE, Mixed, row_of
from things import ANYTHING, NO_NAMES, NO_NUMBERS, NO_ROWS, nested

SLIPS = {"a": 1, "b": 6, "c": 4, "d": -7}
ABCD = ("a", "b", "c", "d")
# Deeds that some() doesn't refuse, one behind the other.
SOME_DEEDS = [("watch", "x"), ("come", "e", 3, 4), ("round", "e", (("x", 5, True),)), ("go", "a"), ("round", "b", ())]
NO_DEEDS = ANYTHING + [
    ("watch",), ("watch", "v", "w"), ("round",), ("round", "a"), ("round", "a", (), ()), ("more", "a"), ("anew", "a"),
    ("more", "a", 1, 1), ("anew", "a", 1, 0), ("swap", "a"), ("swap", "a", "b", "c"), ("seat", "a"), ("seat",),
    ("come", "e", 1), ("come", "e", 1, 0, 0), ("come", "e"), ("go",), ("go", "a", "b"), ["watch", "v"], ["go", "a"],
    ("Watch", "v"), ("undo",), ("undo", "a"), ("names", ABCD), ("look", "a"), (["watch"], "v"), ((), ()), "watch",
    (("watch", "v"),), ("watch", ("v", "w"), 0), {"watch": "v"}, {0: "go", 1: "a"}, (None, "v"), (True, "v"), ("", "v"),
    (nested(19), "v"), nested(20),
]


def some():
    """Four hands, a watcher w who saw a round whole, and one v who saw nothing."""
    house = House(list(ABCD), SLIPS)
    for deed in (("watch", "w"), ("round", "a", (("w", 4, True),)), ("watch", "v")):
        house.do(deed)
    return house


def told_of(house):
    """All that a house tells."""
    return (house.begun(), house.ring(), house.deeds(), house.watchers(),
            [(house.known(watcher), house.known(watcher).seen()) for watcher in house.watchers()])


def random_house(mixed, deeds, most=6):
    """A house behind random deeds, and a shadow behind the same."""
    ring = mixed.ring(mixed.between(2, most))
    house, shadow = House(ring.names(), ring.slips()), Shadow(ring.names(), ring.slips(), most)
    for _ in range(deeds):
        deed = random_deed(mixed, shadow.names(), list(shadow.seen), most=most)
        assert house.do(deed) == shadow.do(deed)
    return house, shadow


class HouseTest(unittest.TestCase):
    def assert_stays(self, house, ask, error, fields):
        """It is refused so, and nothing is changed by it."""
        ahead, twin = told_of(house), house.twin()
        with self.assertRaises(error) as caught:
            ask()
        self.assertEqual(vars(caught.exception), fields)
        self.assertEqual(told_of(house), ahead)
        self.assertEqual(house, twin)

    def assert_as_shadow(self, house, shadow):
        self.assertEqual(house.ring(), Ring(shadow.names(), shadow.slips()))
        self.assertEqual(house.watchers(), sorted(shadow.seen))
        for watcher in house.watchers():
            known = house.known(watcher)
            self.assertEqual(known.names(), shadow.names())
            self.assertEqual(known.seen(), shadow.seen[watcher])
            for name, rest in known.rests().items():
                self.assertEqual(shadow.period % rest[1], 0)
                self.assertEqual(fitting_by(rest, shadow.period), shadow.fitting[watcher][name])
            self.assertTrue(known.fits(shadow.slips()))


class MakingTest(HouseTest):
    def test_as_ring(self):
        house = House(slips=SLIPS, names=ABCD)
        self.assertEqual(house.ring(), Ring(list(ABCD), SLIPS))
        self.assertEqual((house.begun(), house.watchers(), house.deeds()), (house.ring(), [], []))
        for names in NO_ROWS:
            with self.subTest(names=names), self.assertRaises(NoRing):
                House(names, {"a": 1, "b": 2})
        for slips in ANYTHING + [{"a": 1}, {"a": 1, "b": 2, "c": 3}, {"a": 1, "b": True}, {"a": 1, "c": 2}]:
            with self.subTest(slips=slips), self.assertRaises(NoRing):
                House(["a", "b"], slips)

    def test_what_is_handed_in_may_be_changed_later(self):
        names, slips = list(ABCD), dict(SLIPS)
        house = House(names, slips)
        names.reverse()
        slips.clear()
        self.assertEqual(house, House(list(ABCD), SLIPS))
        self.assertEqual(house.begun(), Ring(list(ABCD), SLIPS))
        deeds = [("watch", "v"), ("more", "a", 1)]
        house.all_done(deeds)
        self.assertEqual(deeds, [("watch", "v"), ("more", "a", 1)])
        deeds.pop()
        self.assertEqual(house.deeds(), [("watch", "v"), ("more", "a", 1)])


class DeedsTest(HouseTest):
    def test_watch(self):
        house = House(list(ABCD), SLIPS)
        for count, name in enumerate(("w", "a", "v", "zzzzzzzz"), start=1):
            self.assertIsNone(house.do(("watch", name)))
            self.assertEqual(len(house.watchers()), count)
            self.assertEqual(house.known(name), Known(ABCD))
            self.assertEqual(house.known(name).seen(), [])
        self.assertEqual(house.watchers(), ["a", "v", "w", "zzzzzzzz"])
        self.assertIsInstance(house.watchers(), list)
        self.assertEqual(house.ring(), Ring(list(ABCD), SLIPS))

    def test_round(self):
        house = some()
        told = house.do(("round", "a", (("v", 2, False), ("w", 4, False))))
        self.assertEqual(told, (("a", "c", "d", "b"), "a"))
        self.assertIsInstance(told, tuple)
        self.assertIsInstance(told[0], tuple)
        whole = (ABCD, ("a", "c", "d", "b"), "a")
        self.assertEqual(house.known("v").seen(), [(ABCD, ("a", "c"), None)])
        self.assertEqual(house.known("v").rests(), {"a": (1, 3), "b": (0, 1), "c": (0, 1), "d": (0, 1)})
        self.assertEqual(house.known("w").seen(), [whole, (ABCD, ("a", "c", "d", "b"), None)])
        self.assertEqual(house.known("w").rests(), {"a": (1, 3), "b": (2, 4), "c": (0, 2), "d": (0, 1)})
        # Nobody's eyes, or one goer's alone: nothing more is known.
        self.assertEqual(house.do(("round", "b", ())), (("b", "c", "d", "a"), "c"))
        house.do(("round", "b", (("v", 1, False),)))
        self.assertEqual(house.known("v").seen()[1:], [(ABCD, ("b",), None)])
        self.assertEqual(house.known("v").rest("b"), (0, 1))
        self.assertEqual(len(house.known("w").seen()), 2)

    def test_more(self):
        house = some()
        self.assertIsNone(house.do(("more", "a", 2 * HUGE)))
        self.assertEqual(house.ring().slips(), {**SLIPS, "a": 1 + 2 * HUGE})
        self.assertEqual(house.known("w").rest("a"), ((1 + 2 * HUGE) % 3, 3))
        self.assertEqual(house.known("v").rest("a"), (0, 1))
        self.assertEqual(house.known("w").seen(), [])

    def test_anew(self):
        house = some()
        self.assertIsNone(house.do(("anew", "a", -3)))
        self.assertEqual(house.ring().slips(), {**SLIPS, "a": -3})
        self.assertEqual(house.known("w").rests(), {"a": (0, 1), "b": (2, 4), "c": (0, 2), "d": (0, 1)})
        self.assertEqual(house.known("w").seen(), [])

    def test_swap(self):
        house = some()
        self.assertIsNone(house.do(("swap", "d", "a")))
        self.assertEqual(list(house.ring().slips().items()), [("a", -7), ("b", 6), ("c", 4), ("d", 1)])
        self.assertEqual(house.known("w").rests(), {"a": (0, 1), "b": (2, 4), "c": (0, 2), "d": (1, 3)})

    def test_seat(self):
        house = some()
        self.assertIsNone(house.do(("seat", "d", "a")))
        self.assertEqual(list(house.ring().slips().items()), [("d", -7), ("b", 6), ("c", 4), ("a", 1)])
        known = house.known("w")
        self.assertEqual(list(known.rests().items()), [("d", (0, 1)), ("b", (2, 4)), ("c", (0, 2)), ("a", (1, 3))])
        # What is seen then is of the seats then.
        self.assertEqual(house.do(("round", "a", (("w", 1, False),)))[0][0], "a")
        self.assertEqual(house.known("w").seen(), [(("d", "b", "c", "a"), ("a",), None)])

    def test_come(self):
        for at, names in ((0, "eabcd"), (2, "abecd"), (4, "abcde")):
            house = some()
            self.assertIsNone(house.do(("come", "e", 9, at)))
            self.assertEqual(house.ring(), Ring(list(names), {**SLIPS, "e": 9}))
            known = house.known("w")
            self.assertEqual(known.names(), list(names))
            self.assertEqual(known.rests(), {"a": (1, 3), "b": (2, 4), "c": (0, 2), "d": (0, 1), "e": (0, 1)})
            self.assertEqual(house.known("v"), Known(list(names)))

    def test_go(self):
        house = some()
        self.assertIsNone(house.do(("go", "b")))
        self.assertEqual(list(house.ring().slips().items()), [("a", 1), ("c", 4), ("d", -7)])
        self.assertEqual(list(house.known("w").rests().items()), [("a", (1, 3)), ("c", (0, 2)), ("d", (0, 1))])
        # Who comes again by that name has another slip.
        house.do(("come", "b", 6, 1))
        self.assertEqual(house.known("w").rest("b"), (0, 1))

    def test_watch_and_round_leave_what_others_saw(self):
        house = some()
        ahead = house.known("w").seen()
        house.do(("watch", "x"))
        house.do(("round", "c", (("x", 4, True),)))
        self.assertEqual(house.known("w").seen(), ahead)
        for deed in (("more", "a", 1), ("anew", "b", 1), ("swap", "a", "b"), ("seat", "c", "d"), ("come", "e", 1, 0),
                     ("go", "e")):
            house.do(("round", "c", (("x", 4, True),)) if len(house.ring()) == 4 else ("round", "c", (("x", 5, True),)))
            self.assertNotEqual(house.known("x").seen(), [])
            house.do(deed)
            self.assertEqual(house.known("x").seen(), [])

    def test_random_deeds(self):
        for turn in range(40):
            mixed = Mixed(turn)
            house, shadow = random_house(mixed, 0)
            for _ in range(25):
                deed = random_deed(mixed, shadow.names(), list(shadow.seen), most=6)
                self.assertEqual(house.do(deed), shadow.do(deed))
                self.assert_as_shadow(house, shadow)

    def test_of_twelve(self):
        mixed = Mixed(12)
        ring = mixed.ring(12)
        house, shadow = House(ring.names(), ring.slips()), Shadow(ring.names(), ring.slips())
        for _ in range(30):
            deed = random_deed(mixed, shadow.names(), list(shadow.seen))
            self.assertEqual(house.do(deed), shadow.do(deed))
        self.assert_as_shadow(house, shadow)

    def test_each_slips_that_fit_could_be_there(self):
        # With any slips that fit what a watcher knows, all it saw would have been the same.
        for turn in range(25):
            mixed = Mixed(turn + 900)
            ring = mixed.ring(mixed.between(2, 5))
            house = House(ring.names(), ring.slips())
            house.all_done([("watch", "v"), ("watch", "w")])
            for _ in range(8):
                house.do(random_deed(mixed, house.ring().names(), house.watchers(), most=5))
            for watchers in (["v"], ["w"], ["v", "w"]):
                known = house.together(watchers)
                slips = {name: r + m * mixed.between(-9, 9) for name, (r, m) in known.rests().items()}
                self.assertTrue(known.fits(slips))
                self.assert_same_seen(house, watchers, slips)

    def assert_same_seen(self, house, watchers, slips):
        """Led back from these slips, the same deeds show the watchers the same."""
        begun, deeds = self.led_back(house, slips)
        other = House(house.begun().names(), begun)
        trail = House(house.begun().names(), house.begun().slips())
        for deed, mended in zip(house.deeds(), deeds):
            trail.do(deed)
            other.do(mended)
            for watcher in [watcher for watcher in watchers if watcher in trail.watchers()]:
                self.assertEqual(other.known(watcher), trail.known(watcher))
                self.assertEqual(other.known(watcher).seen(), trail.known(watcher).seen())
        self.assertEqual(other.ring().slips(), slips)

    def led_back(self, house, slips):
        """The slips at first, and the deeds with new slips such that the last slips are these."""
        slips, deeds = dict(slips), []
        stands = house.twin()
        for deed in reversed(house.deeds()):
            stands.undo()
            word = deed[0]
            if word == "more":
                slips[deed[1]] -= deed[2]
            elif word == "swap":
                slips[deed[1]], slips[deed[2]] = slips[deed[2]], slips[deed[1]]
            elif word == "anew":
                deed = (word, deed[1], slips[deed[1]])
                slips[deed[1]] = stands.ring().slip(deed[1])
            elif word == "come":
                deed = (word, deed[1], slips.pop(deed[1]), deed[3])
            elif word == "go":
                slips[deed[1]] = stands.ring().slip(deed[1])
            deeds.append(deed)
        return slips, deeds[::-1]


class RefusedTest(HouseTest):
    def assert_refused(self, deed, error, house=None, **fields):
        house = house or some()
        with self.subTest(deed=deed):
            self.assert_stays(house, lambda: house.do(deed), error, fields)

    def test_no_tuple_of_such_a_word_and_as_many_parts(self):
        for deed in NO_DEEDS:
            self.assert_refused(deed, NoDeed, at=0)

    def test_no_name(self):
        for thing in NO_NAMES + ["e", "w", ["a"], ("a",), {"a": 1}]:
            for deed in (("round", thing, ()), ("round", thing, None), ("more", thing, None), ("anew", thing, None),
                         ("swap", thing, "a"), ("swap", thing, thing), ("seat", thing, None), ("swap", "b", thing),
                         ("seat", "a", thing), ("go", thing)):
                self.assert_refused(deed, NoName, name=thing)

    def test_come_of_what_is_no_name_or_is_one(self):
        for thing in NO_NAMES + ["a", "d", ["e"], ("e",)]:
            for deed in (("come", thing, 1, 0), ("come", thing, None, 9), ("come", thing, 1, None)):
                self.assert_refused(deed, NoName, name=thing)
        # A watcher's name is no hand's.
        house = some()
        house.do(("come", "w", 1, 0))
        self.assertEqual(house.ring().names(), ["w", "a", "b", "c", "d"])

    def test_no_eyes(self):
        wrong = [[], [("w", 1, False)], (["w", 1, False],), (("w", 1),), (("w", 1, False, 0),), ("w", 1, False),
                 (("w", 1, False), ("w", 1, False)), (("w", 1, False), ("v", 1, False), ("w", 2, False)), (("w",),),
                 (("x", 1, False), ("x", 1, False)), ((None, 1, False), (None, 0, None)), ("wvx",),
                 (("w", 1, False), None),
                 ((["w"], 1, False), (["w"], 1, False)), (("x", 9, 9), ("w", 1)), ({"w": 1},), ((),), (nested(19),)]
        for eyes in wrong + [thing for thing in ANYTHING if thing != ()]:
            self.assert_refused(("round", "a", eyes), NoDeed, at=0)

    def test_eyes_one_by_one(self):
        for thing in NO_NAMES + ["x", "a", ["w"], ("w",), {"w": 1}]:
            for eyes in (((thing, 1, False),), (("w", 1, False), (thing, None, None)), ((thing, 0, 7), ("w", 0, 0))):
                self.assert_refused(("round", "a", eyes), NoWatcher, name=thing)
        for thing in NO_NUMBERS + [0, -1, 5, 6, HUGE, -HUGE]:
            for eyes in ((("w", thing, False),), (("w", thing, None), ("x", 1, False)),
                         (("v", 1, False), ("w", thing, True))):
                self.assert_refused(("round", "a", eyes), NoNumber)
        for thing in [thing for thing in ANYTHING if not isinstance(thing, bool)] + ["True", (True,)]:
            for eyes in ((("w", 4, thing),), (("w", 1, thing), ("x", 1, False)), (("v", 4, True), ("w", 4, thing))):
                self.assert_refused(("round", "a", eyes), NoDeed, at=0)
        for many in (1, 2, 3):
            self.assert_refused(("round", "a", (("w", many, True),)), NoDeed, at=0)
            self.assert_refused(("round", "a", (("w", many, True), ("x", 1, False))), NoDeed, at=0)
            self.assert_refused(("round", "a", (("v", 4, True), ("w", many, True))), NoDeed, at=0)
        # The first that is wrong is told, and nobody saw anything.
        self.assert_refused(("round", "a", (("w", 4, True), ("x", 1, False), ("v", 0, False))), NoWatcher, name="x")
        self.assert_refused(("round", "a", (("w", 4, True), ("v", 0, False), ("x", 1, False))), NoNumber)

    def test_watch(self):
        for thing in NO_NAMES + ["w", "v", ["x"], ("x",)]:
            self.assert_refused(("watch", thing), NoWatcher, name=thing)

    def test_no_number(self):
        for thing in NO_NUMBERS:
            for deed in (("more", "a", thing), ("anew", "a", thing), ("come", "e", thing, 0),
                         ("come", "e", thing, None), ("come", "e", 0, thing)):
                self.assert_refused(deed, NoNumber)
        for at in (-1, 5, 6, HUGE, -HUGE):
            self.assert_refused(("come", "e", 0, at), NoNumber)

    def test_one_and_other_alike(self):
        for name in ABCD:
            self.assert_refused(("swap", name, name), NoDeed, at=0)
            self.assert_refused(("seat", name, name), NoDeed, at=0)

    def test_bounds(self):
        house = House(row_of(11), {name: 1 for name in row_of(11)})
        self.assertIsNone(house.do(("come", "z", 1, 11)))
        for at in (0, 7, 12):
            self.assert_refused(("come", "y", 1, at), TooMany, house, most=12)
        self.assert_refused(("come", "z", 1, 0), NoName, house, name="z")
        self.assert_refused(("come", "y", None, 0), NoNumber, house)
        self.assert_refused(("come", "y", 1, 13), NoNumber, house)
        house = some()
        for name in row_of(10):
            house.do(("watch", name))
        self.assertEqual(len(house.watchers()), 12)
        self.assert_refused(("watch", "z"), TooMany, house, most=12)
        self.assert_refused(("watch", "w"), NoWatcher, house, name="w")
        self.assert_refused(("watch", "Z"), NoWatcher, house, name="Z")
        house = House(["a", "b", "c"], {"a": 1, "b": 2, "c": 3})
        self.assertIsNone(house.do(("go", "b")))
        for name in "ac":
            self.assert_refused(("go", name), TooMany, house, most=2)
        self.assert_refused(("go", "b"), NoName, house, name="b")


class AskingTest(HouseTest):
    def test_begun_and_ring(self):
        house = some()
        for deed in (("more", "a", 1), ("go", "b"), ("come", "e", 7, 1), ("seat", "a", "d")):
            house.do(deed)
        self.assertEqual(house.begun(), Ring(list(ABCD), SLIPS))
        self.assertEqual(house.ring(), Ring(["d", "e", "c", "a"], {"d": -7, "e": 7, "c": 4, "a": 2}))

    def test_known_is_a_twin(self):
        house = some()
        house.known("w").see((ABCD, ("c", "a", "b"), None))
        self.assertEqual(house.known("w").seen(), [(ABCD, ("a", "c", "d", "b"), "a")])
        self.assertEqual(house.known(watcher="w").rests(), {"a": (1, 3), "b": (2, 4), "c": (0, 2), "d": (0, 1)})
        kept = house.known("v")
        house.do(("round", "a", (("v", 4, True),)))
        self.assertEqual(kept, Known(ABCD))

    def test_no_watcher(self):
        house = some()
        for thing in ANYTHING + NO_NAMES + ["a", "x", ["w"], ("w",), {"w": 1}]:
            with self.subTest(thing=thing):
                self.assert_stays(house, lambda: house.known(thing), NoWatcher, {"name": thing})
        for watchers in ([], (), None, "w", "wv", {"w": 1}, 0, True, {}):
            with self.subTest(watchers=watchers):
                self.assert_stays(house, lambda: house.together(watchers), NoWatcher, {"name": None})
        for thing in ANYTHING + NO_NAMES + ["a", "x", ["w"], ("w",), {"w": 1}]:
            for watchers in ([thing], ("w", thing, "x"), ["v", "w", thing]):
                with self.subTest(watchers=watchers):
                    self.assert_stays(house, lambda: house.together(watchers), NoWatcher, {"name": thing})

    def test_together(self):
        house = some()
        house.do(("round", "c", (("v", 3, False),)))
        self.assertEqual(house.known("v").seen(), [(ABCD, ("c", "a", "d"), None)])
        wished = {"a": (1, 6), "b": (2, 4), "c": (4, 6), "d": (0, 1)}
        self.assertEqual(house.known("v").rests(), {"a": (1, 2), "b": (0, 1), "c": (1, 3), "d": (0, 1)})
        for watchers in (["v", "w"], ("w", "v"), ["w", "v", "w", "v"]):
            known = house.together(watchers)
            self.assertEqual(list(known.rests().items()), list(wished.items()))
            self.assertEqual(known.seen(), [])
            self.assertEqual(known.names(), list(ABCD))
        self.assertEqual(house.together(watchers=["w"]), house.known("w"))
        self.assertEqual(house.together(["w"]).seen(), [])
        self.assertEqual(house.together(["v", "v"]), house.known("v"))

    def test_together_as_all_that_they_saw(self):
        for turn in range(20):
            mixed = Mixed(turn + 70)
            house, shadow = random_house(mixed, 30)
            if not house.watchers():
                continue
            watchers = [mixed.one_of(house.watchers()) for _ in range(mixed.between(1, 4))]
            known = house.together(watchers)
            self.assertEqual(known.names(), shadow.names())
            for name, rest in known.rests().items():
                wished = set.intersection(*[shadow.fitting[watcher][name] for watcher in watchers])
                self.assertEqual(fitting_by(rest, shadow.period), wished)
            self.assertTrue(known.fits(shadow.slips()))

    def test_deeds(self):
        house = some()
        wished = [("watch", "w"), ("round", "a", (("w", 4, True),)), ("watch", "v")]
        self.assertEqual(house.deeds(), wished)
        house.deeds().clear()
        self.assertEqual(house.deeds(), wished)
        house.do(("more", "a", 5))
        self.assertEqual(house.deeds(), wished + [("more", "a", 5)])

    def test_told_lists_are_new_ones(self):
        house = some()
        house.watchers().clear()
        house.known("w").rests().clear()
        house.ring().names().clear()
        house.ring().slips().clear()
        house.all_done([("more", "a", 0)]).append(1)
        self.assertEqual(house.watchers(), ["v", "w"])
        self.assertEqual(house.ring(), Ring(list(ABCD), SLIPS))


class AllDoneTest(HouseTest):
    def test_all(self):
        house, other = some(), some()
        told = house.all_done(SOME_DEEDS)
        self.assertIsInstance(told, list)
        self.assertEqual(told, [other.do(deed) for deed in SOME_DEEDS])
        self.assertEqual([thing is None for thing in told], [True, True, False, True, False])
        self.assertEqual(told_of(house), told_of(other))
        self.assertEqual(some().all_done(deeds=tuple(SOME_DEEDS)), told)
        self.assertEqual(house.all_done([]), [])
        self.assertEqual(told_of(house), told_of(other))

    def test_or_none(self):
        for deed, error, fields in ((("go", "a"), NoName, {"name": "a"}), (("swap", "b", "b"), NoDeed, {"at": 0}),
                                    (("watch", "x"), NoWatcher, {"name": "x"}), (("more", "b", None), NoNumber, {}),
                                    (("round", "b", (("x", 3, True),)), NoDeed, {"at": 0})):
            house = some()
            deeds = SOME_DEEDS + [deed] + SOME_DEEDS
            self.assert_stays(house, lambda: house.all_done(deeds), error, fields)
        house = House(["a", "b", "c"], {"a": 1, "b": 2, "c": 3})
        self.assert_stays(house, lambda: house.all_done([("go", "a"), ("go", "b")]), TooMany, {"most": 2})

    def test_first_that_is_none_by_word_and_parts_is_ahead(self):
        house = some()
        for thing in NO_DEEDS:
            for at, deeds in ((0, [thing]), (1, [("go", "z"), thing]), (2, (("go", "z"), ("go", None), thing, thing)),
                              (5, SOME_DEEDS + [thing, ("go", "z")])):
                with self.subTest(thing=thing, at=at):
                    self.assert_stays(house, lambda: house.all_done(deeds), NoDeed, {"at": at})

    def test_no_list(self):
        house = some()
        for thing in [thing for thing in ANYTHING if not isinstance(thing, (list, tuple))] + ["go", {0: ("go", "a")}]:
            with self.subTest(thing=thing):
                self.assert_stays(house, lambda: house.all_done(thing), NoDeed, {"at": 0})
        # A deed by itself is a list of what are none.
        self.assert_stays(house, lambda: house.all_done(("go", "a")), NoDeed, {"at": 0})

    def test_refused_as_do_refuses(self):
        for turn in range(40):
            mixed = Mixed(turn + 40)
            house, shadow = random_house(mixed, 6)
            deeds = [random_deed(mixed, shadow.names(), list(shadow.seen), most=6) for _ in range(4)]
            other = house.twin()
            try:
                wished = [other.do(deed) for deed in deeds]
            except GoerError as why:
                self.assert_stays(house, lambda: house.all_done(deeds), why.__class__, vars(why))
                continue
            self.assertEqual(house.all_done(deeds), wished)
            self.assertEqual(told_of(house), told_of(other))


class UndoTest(HouseTest):
    def test_back_to_the_start_and_beyond(self):
        for turn in range(30):
            mixed = Mixed(turn + 7)
            house, shadow = random_house(mixed, 0)
            stood = []
            for _ in range(20):
                stood.append((told_of(house), house.twin()))
                house.do(random_deed(mixed, house.ring().names(), house.watchers(), most=6))
            for told, twin in reversed(stood):
                self.assertIs(house.undo(), True)
                self.assertEqual(told_of(house), told)
                self.assertEqual(house, twin)
            for _ in range(3):
                self.assertIs(house.undo(), False)
                self.assertEqual(told_of(house), stood[0][0])
            self.assert_as_shadow(house, shadow)

    def test_what_watchers_saw_by_it_too(self):
        house = some()
        ahead = told_of(house)
        house.do(("round", "a", (("v", 4, True), ("w", 3, False))))
        house.do(("seat", "a", "b"))
        self.assertEqual(house.known("w").seen(), [])
        house.undo()
        self.assertEqual(len(house.known("w").seen()), 2)
        house.undo()
        self.assertEqual(told_of(house), ahead)
        self.assertEqual(house.known("v"), Known(ABCD))

    def test_all_done_one_by_one(self):
        house, other = some(), some()
        deeds = SOME_DEEDS
        house.all_done(deeds)
        for at in reversed(range(len(deeds))):
            self.assertIs(house.undo(), True)
            self.assertEqual(house.deeds(), some().deeds() + deeds[:at])
            other = some()
            other.all_done(deeds[:at])
            self.assertEqual(told_of(house), told_of(other))

    def test_it_stands_as_a_new_one_that_its_deeds_lead(self):
        for turn in range(30):
            mixed = Mixed(turn + 17)
            house, _ = random_house(mixed, 10)
            for _ in range(20):
                if mixed.below(3) == 0:
                    house.undo()
                else:
                    house.do(random_deed(mixed, house.ring().names(), house.watchers(), most=6))
            other = House(house.begun().names(), house.begun().slips())
            for deed in house.deeds():
                other.do(deed)
            self.assertEqual(told_of(house), told_of(other))
            self.assertEqual(house, other)


class TwinTest(HouseTest):
    def test_twin(self):
        house = some()
        twin = house.twin()
        self.assertIsNot(twin, house)
        self.assertEqual(told_of(twin), told_of(house))
        twin.all_done([("round", "a", (("v", 4, True),)), ("anew", "a", 3)])
        self.assertEqual(told_of(house), told_of(some()))
        house.do(("go", "d"))
        self.assertEqual(twin.ring().names(), list(ABCD))
        # Its deeds can be taken back there, too, the ones from ahead of it as well, and back there alone.
        for _ in range(5):
            self.assertIs(twin.undo(), True)
        self.assertIs(twin.undo(), False)
        self.assertEqual(told_of(twin), told_of(House(list(ABCD), SLIPS)))
        self.assertEqual(len(house.deeds()), 4)
        self.assertIs(house.undo(), True)
        self.assertEqual(told_of(house), told_of(some()))

    def test_equal(self):
        house = some()
        self.assertIs(house == some(), True)
        self.assertIs(house != some(), False)
        for deed in (("more", "d", 1), ("anew", "d", 9), ("swap", "a", "b"), ("seat", "a", "b"), ("come", "e", 0, 0),
                     ("go", "d"), ("watch", "x"), ("round", "a", (("v", 2, False),))):
            other = some()
            other.do(deed)
            self.assertIs(house == other, False, deed)
            self.assertIs(house != other, True, deed)
            self.assertIs(other == house, False, deed)

    def test_equal_by_other_deeds(self):
        # Alike in ring, watchers and what they know, by other deeds, in another order, behind other sightings.
        house, other = House(list(ABCD), SLIPS), House(list(ABCD), {**SLIPS, "a": 0})
        house.all_done([("watch", "v"), ("watch", "w"), ("round", "a", (("w", 2, False),))])
        other.all_done([("watch", "w"), ("more", "a", 1), ("watch", "v"), ("round", "a", (("w", 2, False),)),
                        ("round", "a", (("w", 2, False), ("v", 1, False)))])
        self.assertIs(house == other, True)
        self.assertNotEqual(house.deeds(), other.deeds())
        other.do(("round", "a", (("v", 2, False),)))
        self.assertIs(house == other, False)

    def test_to_other_things(self):
        house = House(list(ABCD), SLIPS)
        for thing in ANYTHING + [house.ring(), house.begun(), Known(ABCD), ABCD, SLIPS, (house.ring(), {}),
                                 house.deeds(), of_rests(["a", "b"], {"a": (0, 1), "b": (0, 1)})]:
            self.assertIs(house == thing, False)
            self.assertIs(house != thing, True)
            self.assertIs(thing == house, False)

    def test_by_name(self):
        house = some()
        self.assertEqual(house.do(deed=("round", "a", ())), (("a", "c", "d", "b"), "a"))
        self.assertEqual(house.all_done(deeds=[("more", "a", 1)]), [None])


if __name__ == "__main__":
    unittest.main()
