"""[0.3] over the whole interface: how arguments go, what is handed in stays, what is told is new."""

import importlib
import itertools
import unittest

from goersay.house import House
from goersay.known import Known, of_rests
from goersay.logs import log_of
from goersay.papers import fewest_last
from goersay.rings import Ring

from test_package import FUNCTIONS, METHODS

ABCD = ["a", "b", "c", "d"]
SLIPS = {"d": -7, "a": 1, "c": 4, "b": 6}
ORDER = ("a", "c", "d", "b")
SEATS = ["d", "a", "c", "b"]
SIGHTING = (tuple(ABCD), ORDER, "a")
SIGHTINGS = [(tuple(ABCD), ("a", "c"), None), (tuple(SEATS), ("b", "d"), None), SIGHTING]
DEEDS = [("watch", "w"), ("round", "a", (("w", 3, False),)), ("come", "e", 5, 2), ("go", "e"), ("more", "a", 3)]
RESTS = {"d": (0, 1), "b": (2, 3), "a": (1, 2), "c": (0, 2)}
TEXT = "a 1\nb 6\nc 4\nd -7\n"


def ring():
    return Ring(ABCD, SLIPS)


def known():
    told = of_rests(ABCD, RESTS)
    told.see((tuple(ABCD), ("c", "d"), None))
    return told


def house():
    told = House(ABCD, SLIPS)
    told.all_done([("watch", "v"), ("watch", "w")])
    told.all_done([("round", "a", (("v", 4, True),)), ("round", "c", (("w", 4, True),))])
    return told


# Of each function: arguments as they go by place, made anew each time.
CALLS = {
    ("rests", "is_rest"): lambda: {"thing": (1, 2)},
    ("rests", "is_number"): lambda: {"thing": 5},
    ("rests", "is_name"): lambda: {"thing": "abc"},
    ("rests", "has"): lambda: {"rest": (1, 2), "number": -3},
    ("rests", "both"): lambda: {"one": (1, 2), "other": (2, 3)},
    ("rests", "by"): lambda: {"rest": (1, 4), "m": 6},
    ("rests", "moved"): lambda: {"rest": (1, 4), "k": 6},
    ("rests", "least"): lambda: {"rest": (3, 4)},
    ("orders", "rests_of"): lambda: {"names": list(ABCD), "order": ORDER},
    ("orders", "order_by"): lambda: {"names": list(ABCD), "begin": "b", "places": (2, 1, 0)},
    ("orders", "number_of"): lambda: {"names": list(ABCD), "order": ORDER},
    ("orders", "order_at"): lambda: {"names": list(ABCD), "begin": "c", "number": 4},
    ("far", "begins"): lambda: {"ring": ring(), "begin": "b"},
    ("far", "begin_at"): lambda: {"ring": ring(), "begin": "b", "k": 10 ** 20},
    ("far", "round_at"): lambda: {"ring": ring(), "begin": "b", "k": 1},
    ("far", "lasts"): lambda: {"ring": ring(), "begin": "b", "k": 9},
    ("seen", "is_sighting"): lambda: {"thing": SIGHTING},
    ("seen", "says"): lambda: {"sighting": SIGHTING},
    ("seen", "sighting_of"): lambda: {"ring": ring(), "begin": "a", "many": 4, "then": True},
    ("known", "of_rests"): lambda: {"names": list(ABCD), "rests": dict(RESTS)},
    ("known", "first_clash"): lambda: {
        "names": list(ABCD), "sightings": [*SIGHTINGS, (tuple(SEATS), ("a", "b"), None)],
    },
    ("known", "is_clash"): lambda: {"names": list(ABCD), "sightings": list(SIGHTINGS), "thing": ("a", 0, 1)},
    ("maycome", "next_ones"): lambda: {"known": known(), "seats": list(SEATS), "goers": ("c",)},
    ("maycome", "how_many"): lambda: {"known": known(), "seats": list(SEATS), "begin": "c"},
    ("maycome", "order_may"): lambda: {"known": known(), "seats": list(SEATS), "begin": "c", "number": 1},
    ("maycome", "number_may"): lambda: {"known": known(), "seats": list(SEATS), "order": ("d", "a", "b", "c")},
    ("maycome", "slips_for"): lambda: {"known": known(), "seats": list(SEATS), "order": ("d", "a", "b", "c")},
    ("maycome", "sure"): lambda: {"known": known(), "seats": list(SEATS), "begin": "c"},
    ("tworounds", "two_may"): lambda: {"known": Known(ABCD), "seats": list(SEATS), "one": ORDER, "other": ORDER},
    ("tworounds", "slips_for_two"): lambda: {"known": Known(ABCD), "seats": list(ABCD), "one": ORDER, "other": ORDER},
    ("tworounds", "how_many_two"): lambda: {"known": known(), "seats": list(SEATS), "begin": "c"},
    ("alike", "needs"): lambda: {"ring": ring()},
    ("alike", "alike"): lambda: {"one": ring(), "other": ring().with_slip("c", 9)},
    ("alike", "least_of"): lambda: {"ring": ring()},
    ("alike", "alike_from"): lambda: {"one": ring(), "other": ring().with_slip("c", 9), "begin": "b"},
    ("wishes", "changes_for"): lambda: {"ring": ring(), "order": ("a", "b", "d", "c")},
    ("wishes", "slips_wished"): lambda: {"names": list(ABCD), "sightings": list(SIGHTINGS[1:])},
    ("wishes", "fewest_begins"): lambda: {"ring": ring()},
    ("wishes", "fewest_eyes"): lambda: {"ring": ring(), "begins": ["b", "a", "b"]},
    ("papers", "fewest_last"): lambda: {"ring": ring(), "begin": "a", "last": "c"},
    ("papers", "is_paper"): lambda: {"ring": ring(), "begin": "a", "last": "c", "number": 2,
                                     "thing": fewest_last(ring(), "a", "c")[2]},
    ("changes", "after"): lambda: {"known": known(), "word": "come", "parts": ("e", 2)},
    ("logs", "log_of"): lambda: {"house": house()},
    ("logs", "first_wrong"): lambda: {"log": log_of(house()) + [("go", "z")]},
    ("logs", "slips_of"): lambda: {"log": log_of(house())},
    ("texts", "ring_text"): lambda: {"ring": ring()},
    ("texts", "read_ring"): lambda: {"text": TEXT},
    ("texts", "sighting_text"): lambda: {"sighting": SIGHTING},
    ("texts", "read_sighting"): lambda: {"text": "a b : b a > b"},
    ("desk", "answers"): lambda: {"text": "ring a 1 b 2\nwatch w\nlook\nround b w:2>\nknows w\n"},
    ("rings", "Ring"): lambda: {"names": list(ABCD), "slips": dict(SLIPS)},
    ("known", "Known"): lambda: {"names": list(ABCD)},
    ("house", "House"): lambda: {"names": list(ABCD), "slips": dict(SLIPS)},
    ("errors", "NoName"): lambda: {"name": ["a"]},
    ("errors", "NoWatcher"): lambda: {"name": {"a": 1}},
    ("errors", "NoSighting"): lambda: {"at": 3},
    ("errors", "NoDeed"): lambda: {"at": 3},
    ("errors", "NoLog"): lambda: {"row": 3},
    ("errors", "NoText"): lambda: {"row": 3},
    ("errors", "TooMany"): lambda: {"most": 8},
    ("errors", "Clash"): lambda: {"name": "a", "one": 0, "other": 3},
}
# Of each method: what it is asked of, and its arguments.
METHOD_CALLS = {
    ("Ring", "names"): (ring, dict),
    ("Ring", "slips"): (ring, dict),
    ("Ring", "slip"): (ring, lambda: {"name": "d"}),
    ("Ring", "order"): (ring, lambda: {"begin": "d"}),
    ("Ring", "next_of"): (ring, lambda: {"begin": "d"}),
    ("Ring", "with_slip"): (ring, lambda: {"name": "d", "number": 3}),
    ("Known", "see"): (known, lambda: {"sighting": (tuple(SEATS), ("a", "c"), None)}),
    ("Known", "names"): (known, dict),
    ("Known", "rests"): (known, dict),
    ("Known", "rest"): (known, lambda: {"name": "b"}),
    ("Known", "seen"): (known, dict),
    ("Known", "fits"): (known, lambda: {"slips": {"d": 1, "c": 0, "b": 5, "a": 1}}),
    ("Known", "least"): (known, dict),
    ("Known", "twin"): (known, dict),
    ("House", "do"): (house, lambda: {"deed": ("round", "b", (("w", 4, True), ("v", 1, False)))}),
    ("House", "begun"): (house, dict),
    ("House", "ring"): (house, dict),
    ("House", "watchers"): (house, dict),
    ("House", "known"): (house, lambda: {"watcher": "w"}),
    ("House", "together"): (house, lambda: {"watchers": ["w", "v", "w"]}),
    ("House", "deeds"): (house, dict),
    ("House", "all_done"): (house, lambda: {"deeds": [("go", "d"), ("round", "c", ()), ("watch", "x")]}),
    ("House", "undo"): (house, dict),
    ("House", "twin"): (house, dict),
}
# These change what they are asked of.
DOING = {("Known", "see"), ("House", "do"), ("House", "all_done"), ("House", "undo")}
BY_NAME_ALONE = {"many", "then"}


def picture(thing):
    """All that can be told of a thing, as a text."""
    if isinstance(thing, Ring):
        return f"Ring {thing.names()} {list(thing.slips().items())}"
    if isinstance(thing, Known):
        return f"Known {thing.names()} {list(thing.rests().items())} {thing.seen()}"
    if isinstance(thing, House):
        knowns = [picture(thing.known(watcher)) for watcher in thing.watchers()]
        return f"House {picture(thing.begun())} {picture(thing.ring())} {thing.deeds()} {thing.watchers()} {knowns}"
    if isinstance(thing, Exception):
        return f"{thing.__class__.__name__} {vars(thing)}"
    if isinstance(thing, (list, tuple)):
        return f"{thing.__class__.__name__} {[picture(part) for part in thing]}"
    return repr(thing)


def spoil(thing):
    """Whatever can be changed of what was told, or was handed in, is."""
    if isinstance(thing, tuple):
        for part in thing:
            spoil(part)
    elif isinstance(thing, list):
        for part in thing:
            spoil(part)
        thing[:] = ["spoiled"]
    elif isinstance(thing, dict):
        thing.clear()
    elif isinstance(thing, Known):
        thing.see((tuple(thing.names()), tuple(thing.names()[:1]), None))
    elif isinstance(thing, House):
        thing.do(("watch", "spoiled"))
        thing.do(("anew", thing.ring().names()[0], 99))


def by_place(function, told):
    ahead = [value for name, value in told.items() if name not in BY_NAME_ALONE]
    return function(*ahead, **{name: value for name, value in told.items() if name in BY_NAME_ALONE})


def by_name(function, told):
    return function(**dict(reversed(list(told.items()))))


def some_by_each(function, told):
    """The first one by place, the others by name, the last one first."""
    first, *others = told.items()
    return function(first[1], **dict(reversed(others)))


class TableTest(unittest.TestCase):
    def test_it_holds_the_whole_interface(self):
        wished = {(file, name) for file, functions in FUNCTIONS.items() for name in functions}
        wished |= {(file, name) for file, name in METHODS if name != "Desk"}
        wished |= {("errors", name) for name in ("NoName", "NoWatcher", "NoSighting", "NoDeed", "NoLog", "NoText",
                                                 "TooMany", "Clash")}
        self.assertEqual(set(CALLS), wished)
        methods = {(name, method) for (_, name), told in METHODS.items() for method in told}
        methods = {(name, method) for name, method in methods if name != "Desk" and method[0] != "_"}
        self.assertEqual(set(METHOD_CALLS), methods)
        for (file, name), made in CALLS.items():
            if file in FUNCTIONS and name in FUNCTIONS[file]:
                self.assertEqual([argument.strip("*") for argument in FUNCTIONS[file][name]], list(made()))
        for (_, name), told in METHODS.items():
            for method in [method for method in told if (name, method) in METHOD_CALLS]:
                self.assertEqual(told[method], list(METHOD_CALLS[name, method][1]()))


def spoilable(told):
    """Whether what is told doesn't hold the thing itself that was handed in, as the field of an error does."""
    return not isinstance(told.get("name"), (list, dict))


class FunctionsTest(unittest.TestCase):
    def for_each(self, check):
        for (file, name), made in CALLS.items():
            with self.subTest(file=file, name=name):
                check(getattr(importlib.import_module(f"goersay.{file}"), name), made)

    def test_arguments_by_place_and_by_name(self):
        def check(function, made):
            wished = picture(by_place(function, made()))
            self.assertEqual(picture(by_name(function, made())), wished)
            self.assertEqual(picture(some_by_each(function, made())), wished)
            for order in itertools.permutations(made().items()):
                self.assertEqual(picture(function(**dict(order))), wished)
        self.for_each(check)

    def test_those_behind_a_star_go_by_name_alone(self):
        def check(function, made):
            if BY_NAME_ALONE & set(made()):
                with self.assertRaises(TypeError):
                    function(*made().values())
        self.for_each(check)

    def test_what_is_handed_in_stays(self):
        def check(function, made):
            told = made()
            by_place(function, told)
            self.assertEqual(picture(list(told.values())), picture(list(made().values())))
        self.for_each(check)

    def test_what_is_handed_in_may_be_changed_later(self):
        def check(function, made):
            told = made()
            answer = by_place(function, told)
            ahead = picture(answer)
            for value in told.values():
                spoil(value)
            self.assertTrue(picture(answer) == ahead or not spoilable(made()))
        self.for_each(check)

    def test_what_is_told_is_new_and_the_same_whenever_asked(self):
        def check(function, made):
            told = made()
            wished = picture(by_place(function, told))
            for _ in range(3):
                answer = by_place(function, told)
                self.assertEqual(picture(answer), wished)
                spoil(answer)
                self.assertEqual(picture(list(told.values())), picture(list(made().values())))
        self.for_each(check)

    def test_a_tuple_where_a_list_is_handed_in(self):
        swapped = []

        def check(function, made):
            for name, value in made().items():
                if isinstance(value, list) and spoilable(made()):
                    self.assertEqual(picture(function(**{**made(), name: tuple(value)})), picture(function(**made())))
                    swapped.append(name)
        self.for_each(check)
        self.assertEqual(set(swapped), {"names", "seats", "sightings", "begins", "log"})

    def test_the_order_of_keys_means_nothing(self):
        swapped = []

        def check(function, made):
            for name, value in made().items():
                if isinstance(value, dict) and spoilable(made()):
                    wished = picture(function(**made()))
                    for order in (sorted(value.items()), sorted(value.items(), reverse=True)):
                        self.assertEqual(picture(function(**{**made(), name: dict(order)})), wished)
                    swapped.append(name)
        self.for_each(check)
        self.assertEqual(set(swapped), {"slips", "rests", "thing"})


class MethodsTest(unittest.TestCase):
    def for_each(self, check):
        for (name, method), (owner, made) in METHOD_CALLS.items():
            with self.subTest(name=name, method=method):
                check((name, method) in DOING, method, owner, made)

    def test_arguments_by_place_and_by_name(self):
        def check(_, method, owner, made):
            one, other = owner(), owner()
            wished = picture(by_place(getattr(one, method), made()))
            self.assertEqual(picture(by_name(getattr(other, method), made())), wished)
            self.assertEqual(picture(one), picture(other))
        self.for_each(check)

    def test_what_only_tells_changes_nothing(self):
        def check(doing, method, owner, made):
            thing = owner()
            by_place(getattr(thing, method), made())
            self.assertEqual(picture(thing) != picture(owner()), doing)
        self.for_each(check)

    def test_what_is_handed_in_stays_and_may_be_changed_later(self):
        def check(_, method, owner, made):
            thing, told = owner(), made()
            answer = by_place(getattr(thing, method), told)
            self.assertEqual(picture(list(told.values())), picture(list(made().values())))
            ahead = picture([thing, answer])
            for value in told.values():
                spoil(value)
            self.assertEqual(picture([thing, answer]), ahead)
        self.for_each(check)

    def test_what_is_told_is_new(self):
        def check(doing, method, owner, made):
            thing = owner()
            wished = picture(by_place(getattr(owner(), method), made()))
            for _ in range(1 if doing else 3):
                answer = by_place(getattr(thing, method), made())
                self.assertEqual(picture(answer), wished)
                ahead = picture(thing)
                spoil(answer)
                self.assertEqual(picture(thing), ahead)
        self.for_each(check)

    def test_a_tuple_where_a_list_is_handed_in(self):
        def check(_, method, owner, made):
            for name, value in made().items():
                if isinstance(value, list):
                    wished = picture(getattr(owner(), method)(**made()))
                    self.assertEqual(picture(getattr(owner(), method)(**{**made(), name: tuple(value)})), wished)
        self.for_each(check)

    def test_desk(self):
        desk = importlib.import_module("goersay.desk").Desk()
        self.assertEqual([desk.say("ring a 1 b 2"), desk.say(row="far b 0")], ["ok", "b a"])


if __name__ == "__main__":
    unittest.main()
