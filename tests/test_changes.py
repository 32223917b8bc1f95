"""[10.1], [10.2]: what is known behind deeds that change who sits or what the slips are."""

import itertools
import unittest

from goersay.changes import after
from goersay.errors import NoDeed, NoName, NoNumber, TooMany
from goersay.known import Known, of_rests

from rounds import HUGE, Mixed, row_of
from test_maycome import random_known, seen_known
from things import ANYTHING, NO_NAMES, NO_NUMBERS

PARTS = {"more": 2, "anew": 1, "swap": 2, "seat": 2, "come": 2, "go": 1}
SOME = {"a": (1, 2), "b": (2, 3), "c": (0, 1), "d": (5, 12)}


def some():
    known = of_rests(["c", "a", "d", "b"], SOME)
    known.see((("a", "b", "c", "d"), ("c",), None))
    return known


def of_many(many):
    return Known(row_of(many))


def moved_about(slips, names, word, parts, number=0):
    """The slips, as the hands sit, behind a deed: what is done, slip by slip."""
    row = [[name, slips[name]] for name in names]
    at = {name: place for place, name in enumerate(names)}
    if word == "more":
        row[at[parts[0]]][1] += parts[1]
    elif word == "anew":
        row[at[parts[0]]][1] = number
    elif word == "swap":
        row[at[parts[0]]][1], row[at[parts[1]]][1] = slips[parts[1]], slips[parts[0]]
    elif word == "seat":
        row[at[parts[0]]], row[at[parts[1]]] = row[at[parts[1]]], row[at[parts[0]]]
    elif word == "come":
        row = row[:parts[1]] + [[parts[0], number]] + row[parts[1]:]
    else:
        row = [hand for hand in row if hand[0] != parts[0]]
    return {name: slip for name, slip in row}


def random_change(mixed, names):
    """A word and parts that these hands don't refuse."""
    words = list(PARTS)
    if len(names) == 12:
        words.remove("come")
    if len(names) == 2:
        words.remove("go")
    word = mixed.one_of(words)
    one, other = mixed.shuffled(names)[:2]
    if word == "more":
        return word, (one, mixed.between(-40, 40))
    if word in ("swap", "seat"):
        return word, (one, other)
    if word == "come":
        strange = [name for name in row_of(14) if name not in names]
        return word, (mixed.one_of(strange), mixed.between(0, len(names)))
    return word, (one,)


class AfterTest(unittest.TestCase):
    def assert_after(self, word, parts, names, rests):
        known = some()
        told = after(known, word, parts)
        self.assertIsInstance(told, Known)
        self.assertIsNot(told, known)
        self.assertEqual(told.names(), names)
        self.assertEqual(list(told.rests().items()), [(name, rests[name]) for name in names])
        self.assertEqual(told.seen(), [])
        # The argument stays as it was, and is another one.
        self.assertEqual(known, some())
        self.assertEqual(known.seen(), some().seen())
        told.see((tuple(names), (names[0],), None))
        self.assertEqual(known.seen(), some().seen())

    def test_more(self):
        names = ["c", "a", "d", "b"]
        self.assert_after("more", ("d", 9), names, {**SOME, "d": (2, 12)})
        self.assert_after("more", ("d", -6), names, {**SOME, "d": (11, 12)})
        self.assert_after("more", ("b", 3 * HUGE), names, SOME)
        self.assert_after("more", ("b", 0), names, SOME)
        self.assert_after("more", ("c", 7), names, SOME)

    def test_anew(self):
        self.assert_after("anew", ("d",), ["c", "a", "d", "b"], {**SOME, "d": (0, 1)})
        self.assert_after("anew", ("c",), ["c", "a", "d", "b"], SOME)

    def test_swap(self):
        names = ["c", "a", "d", "b"]
        self.assert_after("swap", ("a", "d"), names, {**SOME, "a": (5, 12), "d": (1, 2)})
        self.assert_after("swap", ("b", "c"), names, {**SOME, "c": (2, 3), "b": (0, 1)})

    def test_seat(self):
        self.assert_after("seat", ("a", "b"), ["c", "b", "d", "a"], SOME)
        self.assert_after("seat", ("d", "c"), ["d", "a", "c", "b"], SOME)

    def test_come(self):
        rests = {**SOME, "e": (0, 1)}
        self.assert_after("come", ("e", 0), ["e", "c", "a", "d", "b"], rests)
        self.assert_after("come", ("e", 2), ["c", "a", "e", "d", "b"], rests)
        self.assert_after("come", ("e", 4), ["c", "a", "d", "b", "e"], rests)

    def test_go(self):
        self.assert_after("go", ("a",), ["c", "d", "b"], SOME)
        self.assert_after("go", ("b",), ["c", "a", "d"], SOME)

    def test_who_left_and_comes_again_brings_another_slip(self):
        known = after(after(some(), "go", ("d",)), "come", ("d", 3))
        self.assertEqual(known.names(), ["c", "a", "b", "d"])
        self.assertEqual(known.rest("d"), (0, 1))

    def test_just_the_slips_fit_that_did(self):
        # All slips below a period that all moduli divide: those fit behind it that come of some that fitted ahead.
        for turn in range(60):
            mixed = Mixed(turn)
            known = random_known(mixed, mixed.between(2, 3), [1, 2, 3, 4, 6])
            word, parts = random_change(mixed, known.names())
            behind = after(known, word, parts)
            brought = set()
            for slips in itertools.product(range(12), repeat=len(known.names())):
                slips = dict(zip(known.names(), slips))
                if known.fits(slips):
                    for number in range(12 if word in ("anew", "come") else 1):
                        moved = moved_about(slips, known.names(), word, parts, number)
                        self.assertEqual(list(moved), behind.names())
                        brought.add(tuple(slip % 12 for slip in moved.values()))
            for slips in itertools.product(range(12), repeat=len(behind.names())):
                self.assertIs(behind.fits(dict(zip(behind.names(), slips))), slips in brought)

    def test_true_slips_fit_behind_many(self):
        for many in range(2, 13):
            mixed = Mixed(many)
            known, ring = seen_known(mixed, many, 4)
            slips = ring.slips()
            for _ in range(60):
                word, parts = random_change(mixed, known.names())
                ahead = known.twin()
                known, number = after(known, word, parts), mixed.below(1000)
                slips = moved_about(slips, ahead.names(), word, parts, number)
                self.assertEqual(known.names(), list(slips))
                self.assertTrue(known.fits(slips))

    def test_back_again(self):
        for turn in range(30):
            mixed = Mixed(turn)
            known = random_known(mixed, mixed.between(2, 12))
            one, other = mixed.shuffled(known.names())[:2]
            k = mixed.between(-HUGE, HUGE)
            for deed, back in ((("more", (one, k)), ("more", (one, -k))), (("swap", (one, other)),) * 2,
                               (("seat", (one, other)), ("seat", (other, one)))):
                self.assertEqual(after(after(known, *deed), *back), known)
            if len(known.names()) < 12:
                come = after(known, "come", ("zz", mixed.between(0, len(known.names()))))
                self.assertEqual(after(come, "go", ("zz",)), known)

    def test_by_name(self):
        told = after(parts=("d",), word="anew", known=some())
        self.assertEqual(told.rest("d"), (0, 1))


class RefusedTest(unittest.TestCase):
    def assert_refused(self, known, word, parts, error, **fields):
        ahead, seen = known.twin(), known.seen()
        with self.subTest(word=word, parts=parts):
            with self.assertRaises(error) as caught:
                after(known, word, parts)
            self.assertEqual(vars(caught.exception), fields)
            self.assertEqual(known, ahead)
            self.assertEqual(known.seen(), seen)

    def test_another_word(self):
        for word in ANYTHING + ["watch", "round", "More", "go ", "undo", ["go"], ("go",), {"go": 1}]:
            for parts in (("a",), ("a", 1), ("a", "b"), ("z",), (), None, ("e", 1, 0)):
                self.assert_refused(some(), word, parts, NoDeed, at=0)

    def test_no_tuple_of_so_many_parts(self):
        for word, many in PARTS.items():
            for length in [length for length in range(5) if length != many]:
                self.assert_refused(some(), word, ("a", 1, "b", 0)[:length], NoDeed, at=0)
                self.assert_refused(some(), word, ("z", None, None, None)[:length], NoDeed, at=0)
            for thing in [thing for thing in ANYTHING if not isinstance(thing, tuple)]:
                self.assert_refused(some(), word, thing, NoDeed, at=0)
            self.assert_refused(some(), word, ["a", "b"][:many], NoDeed, at=0)
            self.assert_refused(some(), word, {"a": 1, "b": 2}, NoDeed, at=0)
            self.assert_refused(some(), word, "ab"[:many], NoDeed, at=0)

    def test_no_name(self):
        for thing in NO_NAMES + ["e", ["a"], ("a",), {"a": 1}]:
            for word, parts in (("more", (thing, 1)), ("more", (thing, None)), ("anew", (thing,)), ("go", (thing,)),
                                ("swap", (thing, "a")), ("swap", (thing, thing)), ("seat", (thing, None)),
                                ("swap", ("a", thing)), ("seat", ("b", thing))):
                self.assert_refused(some(), word, parts, NoName, name=thing)
        for word in ("swap", "seat"):
            self.assert_refused(some(), word, ("e", "f"), NoName, name="e")

    def test_come_of_what_is_no_name_or_is_one(self):
        for thing in NO_NAMES + ["a", "b", "c", "d", ["e"], ("e",)]:
            for at in (0, 5, None):
                self.assert_refused(some(), "come", (thing, at), NoName, name=thing)

    def test_no_number(self):
        for thing in NO_NUMBERS:
            self.assert_refused(some(), "more", ("a", thing), NoNumber)
            self.assert_refused(some(), "come", ("e", thing), NoNumber)
        for at in (-1, 5, 6, HUGE, -HUGE):
            self.assert_refused(some(), "come", ("e", at), NoNumber)

    def test_one_and_other_alike(self):
        for word in ("swap", "seat"):
            for name in "abcd":
                self.assert_refused(some(), word, (name, name), NoDeed, at=0)

    def test_bounds(self):
        for at in range(13):
            self.assert_refused(of_many(12), "come", ("zz", at), TooMany, most=12)
            if at < 12:
                self.assertEqual(after(of_many(11), "come", ("zz", at)).names().index("zz"), at)
        # What is told ahead comes ahead.
        self.assert_refused(of_many(12), "come", ("a", 0), NoName, name="a")
        self.assert_refused(of_many(12), "come", ("zz", 13), NoNumber)
        for name in "ab":
            self.assert_refused(of_many(2), "go", (name,), TooMany, most=2)
            self.assertEqual(len(after(of_many(3), "go", (name,)).names()), 2)
        self.assert_refused(of_many(2), "go", ("z",), NoName, name="z")


if __name__ == "__main__":
    unittest.main()
