"""[9.2], [0.2] (e): the fewest slips to be changed for a wished last one, and the papers that show it."""

import itertools
import unittest

from goersay.errors import NoName, NoOrder, TooMany
from goersay.orders import number_of
from goersay.papers import WIDEST, fewest_last, is_paper
from goersay.rings import Ring
from goersay.wishes import changes_for

from rounds import HUGE, Mixed, rests_by_words, ring_of, row_of, walk
from test_orders import orders_from
from things import ANYTHING, NO_NAMES, NO_NUMBERS


def pairs_gone_by(names, begin):
    """All pairs that some order from there goes by, each order gone through."""
    return {(tuple(sorted(order[:t])), order[t - 1])
            for order in orders_from(names, begin) for t in range(1, len(names) + 1)}


def led_to(ring, goers, name):
    """To whom the slip of the latest one leads, counted seat by seat."""
    names = ring.names()
    sitting = len(names) - len(goers)
    at = walk(len(names), names.index(name), lambda seat: names[seat] not in goers, ring.slip(name) % sitting)
    return names[at]


def judged(ring, begin, last, number, paper):
    """Whether the paper keeps the sentence of the document, word by word."""
    names = ring.names()
    for goers, name in paper:
        worth = paper[goers, name]
        if len(goers) == len(names):
            if name == last and worth > 0:
                return False
            continue
        for going in names:
            if going not in goers:
                behind = paper[tuple(sorted((*goers, going))), going]
                if worth > behind + (going != led_to(ring, goers, name)):
                    return False
    return number <= paper[(begin,), begin]


def asked_of(many, each):
    """Some rings of so many, each with a begin and a wished last one."""
    told = []
    for turn in range(each):
        mixed = Mixed(many * 91 + turn)
        ring = mixed.ring(many)
        begin = mixed.one_of(ring.names())
        told.append((ring, begin, mixed.one_of([name for name in ring.names() if name != begin])))
    return told


class FewestLastTest(unittest.TestCase):
    def changes(self, ring, order):
        told = rests_by_words(ring.names(), order)
        return sum(ring.slip(name) % m != r for name, (r, m) in told.items())

    def assert_fewest(self, ring, begin, last):
        number, order, _ = fewest_last(ring, begin, last)
        orders = [order for order in orders_from(ring.names(), begin) if order[-1] == last]
        needed = {order: self.changes(ring, order) for order in orders}
        fewest = min(needed.values())
        first = min((order for order in orders if needed[order] == fewest),
                    key=lambda order: number_of(ring.names(), order))
        self.assertEqual((number, order), (fewest, first))
        self.assertEqual(len(changes_for(ring, order)), number)
        return number, list(needed.values()).count(fewest)

    def test_against_all_orders(self):
        found = set()
        for many, each in ((2, 4), (3, 20), (4, 20), (5, 16), (6, 10), (7, 6), (8, 3)):
            for ring, begin, last in asked_of(many, each):
                number, several = self.assert_fewest(ring, begin, last)
                found.add((number, several > 1))
        # None and more to be changed, by one order and by several.
        self.assertLessEqual({(0, False), (1, False), (1, True), (2, True)}, found)

    def test_all_of_few(self):
        for slips in itertools.product(range(2), range(3), range(2), range(6)):
            ring = ring_of(*slips)
            for begin, last in itertools.permutations(ring.names(), 2):
                self.assert_fewest(ring, begin, last)

    def test_by_hand(self):
        ring = ring_of(1, 6, 4, -7)
        self.assertEqual(ring.order("a"), ("a", "c", "d", "b"))
        self.assertEqual(fewest_last(ring, "a", "b")[:2], (0, ("a", "c", "d", "b")))
        # Where a leads to b; c could lead to b instead, too, but a b c d is ahead of a c b d.
        self.assertEqual(fewest_last(ring, "a", "d")[:2], (1, ("a", "b", "c", "d")))
        # b and d both lead to c, so a has to lead to one of them, and that one elsewhere.
        self.assertEqual(fewest_last(ring, "a", "c")[:2], (2, ("a", "b", "d", "c")))

    def test_kinds(self):
        told = fewest_last(ring_of(1, 6, 4), "a", "b")
        self.assertIsInstance(told, tuple)
        number, order, paper = told
        self.assertIs(type(number), int)
        self.assertIsInstance(order, tuple)
        self.assertIsInstance(paper, dict)

    def test_wherever_they_sit(self):
        for turn in range(6):
            ring = Mixed(turn).ring(5)
            names = ring.names()
            others = {name: letter for name, letter in zip(names, "zyxwv")}
            twin = Ring([others[name] for name in names], {others[name]: ring.slip(name) for name in names})
            number, order, _ = fewest_last(ring, names[0], names[3])
            self.assertEqual(fewest_last(twin, "z", "w")[:2], (number, tuple(others[name] for name in order)))

    def test_bound(self):
        self.assertEqual(WIDEST, 8)
        for many in range(2, 13):
            ring = Ring(row_of(many), {name: 1 for name in row_of(many)})
            if many <= 8:
                self.assertEqual(fewest_last(ring, "a", "b")[1][-1], "b")
                continue
            for begin, last in (("a", "b"), ("a", "a"), ("z", "b"), ("a", None), ([], {})):
                for ask in (lambda: fewest_last(ring, begin, last), lambda: is_paper(ring, begin, last, 0, {}),
                            lambda: is_paper(ring, begin, last, None, None)):
                    with self.subTest(many=many, begin=begin), self.assertRaises(TooMany) as caught:
                        ask()
                    self.assertEqual(caught.exception.most, 8)


class PaperTest(unittest.TestCase):
    def test_what_fewest_last_tells(self):
        for many, each in ((2, 4), (3, 12), (4, 12), (5, 8), (6, 5), (7, 3), (8, 2)):
            for ring, begin, last in asked_of(many, each):
                number, _, paper = fewest_last(ring, begin, last)
                self.assertEqual(set(paper), pairs_gone_by(ring.names(), begin))
                self.assertTrue(all(type(worth) is int for worth in paper.values()))
                self.assertTrue(judged(ring, begin, last, number, paper))
                self.assertIs(is_paper(ring, begin, last, number, paper), True)
                self.assertIs(is_paper(ring, begin, last, number - 1, paper), True)
                self.assertIs(is_paper(ring, begin, last, number + 1, paper), False)

    def test_the_pairs_by_hand(self):
        ring = Ring(["c", "a", "b"], {"a": 0, "b": 0, "c": 0})
        wished = {(("c",), "c"), (("a", "c"), "a"), (("b", "c"), "b"), (("a", "b", "c"), "a"), (("a", "b", "c"), "b")}
        self.assertEqual(set(fewest_last(ring, "c", "a")[2]), wished)
        # c a b by itself; for a as the last one c's slip is another one.
        paper = {(("c",), "c"): 1, (("a", "c"), "a"): 5, (("b", "c"), "b"): 0, (("a", "b", "c"), "a"): 0,
                 (("a", "b", "c"), "b"): 5}
        self.assertIs(is_paper(ring, "c", "a", 1, paper), True)
        begun, by_a, by_b = (("c",), "c"), (("a", "c"), "a"), (("b", "c"), "b")
        to_a, to_b = (("a", "b", "c"), "a"), (("a", "b", "c"), "b")
        told = {begun: (0, 2), by_a: (0, 6), by_b: (-1, 1), to_a: (-1, 1), to_b: (4,)}
        for pair, worths in told.items():
            for worth in worths:
                self.assertIs(is_paper(ring, "c", "a", 1, {**paper, pair: worth}), False, (pair, worth))
        for pair, worth in ((by_a, 1), (by_a, 4), (to_b, HUGE)):
            self.assertIs(is_paper(ring, "c", "a", 1, {**paper, pair: worth}), True, (pair, worth))

    def test_other_papers(self):
        for many, each in ((2, 3), (3, 8), (4, 8), (5, 4)):
            for ring, begin, last in asked_of(many, each):
                number, _, paper = fewest_last(ring, begin, last)
                nothing = {pair: 0 for pair in paper}
                self.assertIs(is_paper(ring, begin, last, 0, nothing), True)
                self.assertIs(is_paper(ring, begin, last, -3, nothing), True)
                self.assertIs(is_paper(ring, begin, last, 1, nothing), False)
                low = {pair: worth - HUGE for pair, worth in paper.items()}
                self.assertIs(is_paper(ring, begin, last, number - HUGE, low), True)
                self.assertIs(is_paper(ring, begin, last, number, low), False)
                # Of all gone and another latest one any number may stand; the order of the keys means nothing.
                every = {pair: HUGE if len(pair[0]) == many and pair[1] != last else paper[pair]
                         for pair in reversed(list(paper))}
                self.assertIs(is_paper(ring, begin, last, number, every), True)

    def test_any_numbers_are_judged(self):
        found = {True: 0, False: 0}
        for many, each in ((2, 4), (3, 20), (4, 20)):
            for ring, begin, last in asked_of(many, each):
                number, _, paper = fewest_last(ring, begin, last)
                mixed = Mixed(many)
                for turn in range(40):
                    # Of few pairs the numbers are moved, so that papers that hold and that don't come.
                    other = dict(paper)
                    for pair in mixed.shuffled(list(paper))[:mixed.between(1, 3)]:
                        other[pair] += mixed.between(-2, 1)
                    for worth in (number, number - 1, other[(begin,), begin]):
                        wished = judged(ring, begin, last, worth, other)
                        self.assertIs(is_paper(ring, begin, last, worth, other), wished)
                        found[wished] += 1
        self.assertGreater(min(found.values()), 500)

    def test_no_paper_holds_more_than_is_needed(self):
        # All papers over a few numbers: none that keeps the sentence has a number above the fewest slips.
        for slips in itertools.product((0, 1), (0, 1), (0, 1)):
            ring = ring_of(*slips)
            number, _, paper = fewest_last(ring, "a", "c")
            for worths in itertools.product(range(-1, 3), repeat=len(paper)):
                other = dict(zip(paper, worths))
                told = is_paper(ring, "a", "c", other[("a",), "a"], other)
                self.assertIs(told, judged(ring, "a", "c", other[("a",), "a"], other))
                self.assertTrue(not told or other[("a",), "a"] <= number)

    def test_a_pair_less_or_more(self):
        for many in (2, 3, 4):
            for ring, begin, last in asked_of(many, 4):
                number, _, paper = fewest_last(ring, begin, last)
                for pair in paper:
                    less = {other: worth for other, worth in paper.items() if other != pair}
                    self.assertIs(is_paper(ring, begin, last, number, less), False)
                    goers, name = pair
                    for strange in ((goers, "z"), (goers + ("z",), "z"), (goers,), (name, goers), goers, name, None, 0,
                                    ((name,), goers), (goers, name, 0)):
                        if strange not in paper:
                            self.assertIs(is_paper(ring, begin, last, number, {**paper, strange: 0}), False)
                            self.assertIs(is_paper(ring, begin, last, number, {**less, strange: 0}), False)
                    if goers != goers[::-1]:
                        self.assertIs(is_paper(ring, begin, last, number, {**less, (goers[::-1], name): 0}), False)
                    for thing in NO_NUMBERS:
                        self.assertIs(is_paper(ring, begin, last, number, {**paper, pair: thing}), False)

    def test_a_number_too_high_for_one_pair(self):
        for many in (2, 3, 4, 5):
            for ring, begin, last in asked_of(many, 6):
                number, _, paper = fewest_last(ring, begin, last)
                for pair in paper:
                    others = {**paper, pair: paper[pair] + 1}
                    wished = len(pair[0]) == many and pair[1] != last
                    # Of a pair with such a one behind it the number is the highest that may be.
                    self.assertIs(is_paper(ring, begin, last, number, others), wished, pair)

    def test_of_anything(self):
        ring = ring_of(1, 6, 4, -7)
        number, _, paper = fewest_last(ring, "a", "b")
        self.assertIs(is_paper(ring, "a", "b", number, paper), True)
        for thing in ANYTHING + [list(paper.items()), tuple(paper), [paper], (paper,), {"a": paper}]:
            self.assertIs(is_paper(ring, "a", "b", 0, thing), False, thing)
            self.assertIs(is_paper(ring, "a", "b", thing, thing), False, thing)
        for thing in NO_NUMBERS + [paper]:
            self.assertIs(is_paper(ring, "a", "b", thing, paper), False, thing)
        self.assertIs(is_paper(ring, "a", "b", -HUGE, paper), True)
        self.assertIs(is_paper(ring, "a", "b", HUGE, paper), False)


class RefusedTest(unittest.TestCase):
    def asks(self, ring):
        return (lambda begin, last: fewest_last(ring, begin, last),
                lambda begin, last: is_paper(ring, begin, last, 0, {}),
                lambda begin, last: is_paper(ring, begin, last, None, [None]))

    def test_no_name_of_begin_then_of_last(self):
        for ask in self.asks(ring_of(1, 2, 3)):
            for thing in NO_NAMES + ["d", ["a"], ("a",), {"a": 1}]:
                for begin, last in ((thing, "a"), (thing, "d"), (thing, None), (thing, thing), ("a", thing)):
                    with self.subTest(begin=begin, last=last), self.assertRaises(NoName) as caught:
                        ask(begin, last)
                    self.assertIs(caught.exception.name, thing)

    def test_no_order_where_last_is_begin(self):
        for many in range(2, 9):
            for ask in self.asks(ring_of(*range(many))):
                for name in row_of(many):
                    with self.assertRaises(NoOrder):
                        ask(name, name)


class HandedTest(unittest.TestCase):
    def test_by_name(self):
        ring = ring_of(1, 6, 4, -7)
        told = fewest_last(last="d", begin="a", ring=ring)
        self.assertEqual(told, fewest_last(ring, "a", "d"))
        self.assertIs(is_paper(thing=told[2], number=1, last="d", begin="a", ring=ring), True)

    def test_what_is_handed_in_stays_and_what_is_told_is_new(self):
        ring = ring_of(1, 6, 4, -7)
        number, order, paper = fewest_last(ring, "a", "d")
        kept = dict(paper)
        self.assertIs(is_paper(ring, "a", "d", number, paper), True)
        self.assertEqual(list(paper.items()), list(kept.items()))
        paper.clear()
        self.assertEqual(fewest_last(ring, "a", "d"), (number, order, kept))
        self.assertEqual(ring, ring_of(1, 6, 4, -7))


if __name__ == "__main__":
    unittest.main()
