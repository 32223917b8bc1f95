"""Stage 4, [0.2] (d): rounds from a begin on, of however great a number."""

import unittest

from goersay.errors import NoName, NoNumber
from goersay.far import begin_at, begins, lasts, round_at
from goersay.rings import Ring

from rounds import HUGE, ring_of, rings_of_all_lengths, round_by_words
from things import NO_NAMES, NO_NUMBERS

NO_COUNTS = NO_NUMBERS + [-1, -2, -HUGE]
FAR = [10 ** 9, 10 ** 30 + 1, HUGE, HUGE + 1, 10 ** 60 - 1, 7 ** 70]


def played(ring, begin, many):
    """Who begins and the order, round by round, counted out by words."""
    names, slips = ring.names(), list(ring.slips().values())
    told, seat = [], names.index(begin)
    for _ in range(many):
        gone, following = round_by_words(slips, seat)
        told.append((names[seat], tuple(names[at] for at in gone)))
        seat = following
    return told


def doubled(ring, begin, k):
    """Who begins round k and how often each was last ahead, by legs of 1, 2, 4 .. rounds from each begin."""
    names = ring.names()
    leg = {name: (ring.next_of(name), {ring.order(name)[-1]: 1}) for name in names}
    now, counts, left = begin, {name: 0 for name in names}, k
    while left:
        if left % 2:
            following, more = leg[now]
            counts = {name: counts[name] + more.get(name, 0) for name in names}
            now = following
        leg = {name: (leg[half][0], {other: more.get(other, 0) + leg[half][1].get(other, 0) for other in names})
               for name, (half, more) in leg.items()}
        left //= 2
    return now, counts


class PlayedTest(unittest.TestCase):
    def test_by_hand(self):
        # a's round ends with c, whose 1 leads to b; b's ends with a, whose 0 leads to b again.
        ring = ring_of(0, 0, 1)
        self.assertEqual([ring.order(begin) for begin in "abc"], [("a", "b", "c"), ("b", "c", "a"), ("c", "b", "a")])
        self.assertEqual([ring.next_of(begin) for begin in "abc"], ["b", "b", "b"])
        self.assertEqual(begins(ring, "a"), (["a"], ["b"]))
        self.assertEqual(begins(ring, "b"), ([], ["b"]))
        self.assertEqual(begins(ring, "c"), (["c"], ["b"]))
        self.assertEqual(lasts(ring, "a", 5), {"a": 4, "b": 0, "c": 1})

    def test_begins_are_split_where_one_comes_again(self):
        lengths = set()
        for ring in rings_of_all_lengths(each=10):
            for begin in ring.names():
                told = begins(ring, begin)
                self.assertIsInstance(told, tuple)
                ahead, again = told
                self.assertIsInstance(ahead, list)
                self.assertIsInstance(again, list)
                row = [name for name, _ in played(ring, begin, len(ahead) + 2 * len(again) + 1)]
                self.assertEqual(row, ahead + again + again + again[:1])
                self.assertEqual(len(set(ahead + again)), len(ahead + again))
                self.assertGreater(len(again), 0)
                lengths.add((len(ahead), len(again)))
        self.assertGreater(len(lengths), 8)

    def test_rounds_one_by_one(self):
        for ring in rings_of_all_lengths(each=3):
            for begin in ring.names():
                counts = {name: 0 for name in ring.names()}
                for k, (name, order) in enumerate(played(ring, begin, 30)):
                    self.assertEqual(begin_at(ring, begin, k), name)
                    self.assertEqual(round_at(ring, begin, k), order)
                    self.assertEqual(list(lasts(ring, begin, k).items()), list(counts.items()))
                    counts[order[-1]] += 1

    def test_far_rounds(self):
        for ring in rings_of_all_lengths(each=2):
            for begin in ring.names():
                for k in FAR:
                    name, counts = doubled(ring, begin, k)
                    self.assertEqual(begin_at(ring, begin, k), name)
                    self.assertEqual(round_at(ring, begin, k), ring.order(name))
                    told = lasts(ring, begin, k)
                    self.assertEqual(told, counts)
                    self.assertEqual(list(told), ring.names())
                    self.assertEqual(sum(told.values()), k)

    def test_round_0(self):
        for ring in rings_of_all_lengths(each=1):
            for begin in ring.names():
                self.assertEqual(begin_at(ring, begin, 0), begin)
                self.assertEqual(round_at(ring, begin, 0), ring.order(begin))
                self.assertEqual(list(lasts(ring, begin, 0).items()), [(name, 0) for name in ring.names()])

    def test_slips_of_0_stay_at_one_begin(self):
        for many in range(2, 13):
            ring = ring_of(*[0] * many)
            for begin in ring.names():
                self.assertEqual(begins(ring, begin), ([], [begin]))
                self.assertEqual(begin_at(ring, begin, HUGE), begin)

    def test_kinds(self):
        ring = ring_of(1, 6, 4, -7)
        self.assertIsInstance(begin_at(ring, "a", 3), str)
        self.assertIsInstance(round_at(ring, "a", 3), tuple)
        self.assertIsInstance(lasts(ring, "a", 3), dict)
        for number in lasts(ring, "a", 3).values():
            self.assertIs(type(number), int)


class HandedTest(unittest.TestCase):
    def test_told_lists_and_dicts_are_new_ones(self):
        ring = Ring(["b", "a", "c"], {"a": 4, "b": 1, "c": 2})
        for begin in "abc":
            ahead, again = begins(ring, begin)
            wished = (list(ahead), list(again))
            ahead.append("z")
            again.clear()
            self.assertEqual(begins(ring, begin), wished)
            counts = lasts(ring, begin, 9)
            kept = dict(counts)
            counts.clear()
            self.assertEqual(lasts(ring, begin, 9), kept)

    def test_the_ring_stays(self):
        ring = Ring(["b", "a", "c"], {"a": 4, "b": 1, "c": 2})
        begins(ring, "a")
        begin_at(ring, "a", HUGE)
        round_at(ring, "a", HUGE)
        lasts(ring, "a", HUGE)
        self.assertEqual(ring, Ring(["b", "a", "c"], {"a": 4, "b": 1, "c": 2}))
        self.assertEqual(list(ring.slips()), ["b", "a", "c"])

    def test_by_name(self):
        ring = ring_of(0, 0, 1)
        self.assertEqual(begins(begin="a", ring=ring), (["a"], ["b"]))
        self.assertEqual(begin_at(k=1, begin="a", ring=ring), "b")
        self.assertEqual(round_at(k=1, begin="a", ring=ring), ("b", "c", "a"))
        self.assertEqual(lasts(k=1, begin="a", ring=ring), {"a": 0, "b": 0, "c": 1})


class RefusedTest(unittest.TestCase):
    def test_no_name_is_ahead(self):
        ring = ring_of(1, 2, 3)
        for thing in NO_NAMES + ["d", "abc", ["a"], ("a",), {"a": 1}]:
            for k in (0, HUGE, -1, None, True):
                for ask in (begin_at, round_at, lasts):
                    with self.subTest(thing=thing, k=k), self.assertRaises(NoName) as caught:
                        ask(ring, thing, k)
                    self.assertIs(caught.exception.name, thing)
            with self.assertRaises(NoName) as caught:
                begins(ring, thing)
            self.assertIs(caught.exception.name, thing)

    def test_no_number(self):
        ring = ring_of(1, 2, 3)
        for thing in NO_COUNTS:
            for ask in (begin_at, round_at, lasts):
                with self.subTest(thing=thing), self.assertRaises(NoNumber):
                    ask(ring, "a", thing)


if __name__ == "__main__":
    unittest.main()
