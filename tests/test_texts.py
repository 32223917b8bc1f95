"""[12.1], [0.2] (h): rings and sightings, written and read as they were written."""

import unittest

from goersay.errors import NoRing, NoSighting, NoText
from goersay.rings import Ring
from goersay.texts import read_ring, read_sighting, ring_text, sighting_text

from rounds import Mixed, ring_of, rings_of_all_lengths, row_of
from test_known import random_sighting
from test_seen import NO_SIGHTINGS, SOME
from things import ANYTHING, NO_NAMES

MOST = 10 ** 60 - 1
# No figures as a text has them.
NO_FIGURES = [
    "", "-", "00", "01", "-0", "-00", "-01", "+1", "1.", "1 ", " 1", "1 1", "--1", "1-", "1_0", "a", "0x1", "1e3",
    "1,0",
    "-a", "1" + "0" * 60, "-1" + "0" * 60, "0" * 60, "9" * 61, "/", ":", "1:", "- 1", "1\n",
]
# What is no name and holds no line feed, nor a blank by which it might be read as a name and figures.
NO_WORDS = [thing for thing in NO_NAMES if isinstance(thing, str) and " " not in thing and "\n" not in thing]


class RingTest(unittest.TestCase):
    def test_by_hand(self):
        self.assertEqual(ring_text(ring_of(1, 0, -7)), "a 1\nb 0\nc -7\n")
        ring = Ring(["zz", "a", "abcdefgh"], {"a": MOST, "abcdefgh": -MOST, "zz": -10})
        text = "zz -10\na " + "9" * 60 + "\nabcdefgh -" + "9" * 60 + "\n"
        self.assertEqual(ring_text(ring=ring), text)
        self.assertEqual(read_ring(text=text), ring)
        self.assertEqual(read_ring("b 100\na 0\n"), Ring(["b", "a"], {"a": 0, "b": 100}))

    def test_back_and_forth(self):
        for ring in rings_of_all_lengths(each=12):
            text = ring_text(ring)
            self.assertEqual(read_ring(text), ring)
            self.assertEqual(ring_text(read_ring(text)), text)
            self.assertEqual(text, "".join(f"{name} {ring.slip(name)}\n" for name in ring.names()))

    def assert_no_text(self, text, row):
        with self.subTest(text=text), self.assertRaises(NoText) as caught:
            read_ring(text)
        self.assertEqual(caught.exception.row, row)

    def test_the_first_row_that_is_not_so(self):
        wrong = ["", " ", "a", "a ", " 1", "a  1", "a 1 ", " a 1", "a 1 b", "a 1 b 2", "1 a", "a:1", "a-1", "a 1, b 2"]
        wrong += [f"a {figures}" for figures in NO_FIGURES if "\n" not in figures] + [f"{word} 1" for word in NO_WORDS]
        for row in wrong:
            self.assert_no_text(f"{row}\n", 0)
            self.assert_no_text(f"{row}\nb 2\n", 0)
            self.assert_no_text(f"b 1\nc -2\n{row}\nd 4\n{row}\n", 2)
            self.assert_no_text(f"b 1\n{row}\nc 02\n", 1)
            # By form it isn't so ahead of how many hands, and of how often a name, may be there.
            self.assert_no_text(f"b 1\nb 1\n{row}\n", 2)
            if row:
                self.assert_no_text(f"b 1\nc -2\n{row}", 2)

    def test_where_the_last_line_feed_lacks(self):
        self.assert_no_text("a 1\nb 2", 2)
        self.assert_no_text("a 1", 1)
        for ring in rings_of_all_lengths(each=1):
            self.assert_no_text(ring_text(ring)[:-1], len(ring))
        self.assert_no_text("a 1\na 1", 2)
        # The first row that isn't so is told ahead.
        self.assert_no_text("a 1\nb 02\nc 3", 1)
        self.assert_no_text("a 1\nb 2\n\n", 2)
        self.assert_no_text("\n", 0)
        self.assert_no_text("\na 1\nb 2\n", 0)

    def test_no_text_and_one_without_signs(self):
        self.assert_no_text("", 0)
        no_texts = [thing for thing in ANYTHING if not isinstance(thing, str)]
        for thing in no_texts + [["a 1\n", "b 2\n"], ("a 1\nb 2\n",)]:
            self.assert_no_text(thing, 0)

    def test_then_no_ring(self):
        for text in ("a 1\n", "a 1\na 2\n", "a 1\nb 2\na 1\n", "".join(f"{name} 1\n" for name in row_of(13))):
            with self.subTest(text=text), self.assertRaises(NoRing):
                read_ring(text)
        self.assertEqual(len(read_ring("".join(f"{name} 1\n" for name in row_of(12)))), 12)


class SightingTest(unittest.TestCase):
    def test_by_hand(self):
        self.assertEqual(sighting_text((("a", "b", "c"), ("b",), None)), "a b c : b")
        self.assertEqual(sighting_text((("a", "b", "c"), ("b", "c", "a"), None)), "a b c : b c a")
        self.assertEqual(sighting_text(sighting=(("a", "b", "c"), ("b", "c", "a"), "c")), "a b c : b c a > c")
        self.assertEqual(read_sighting(text="b a : a"), (("b", "a"), ("a",), None))
        self.assertEqual(read_sighting("b a : a b > b"), (("b", "a"), ("a", "b"), "b"))

    def test_back_and_forth(self):
        for sighting in SOME:
            self.assertEqual(read_sighting(sighting_text(sighting)), sighting)
        for many in range(2, 13):
            for turn in range(20):
                sighting = random_sighting(Mixed(many * 20 + turn), row_of(many))
                text = sighting_text(sighting)
                self.assertEqual(read_sighting(text), sighting)
                self.assertEqual(sighting_text(read_sighting(text)), text)

    def test_no_sighting(self):
        for thing in NO_SIGHTINGS:
            with self.subTest(thing=thing), self.assertRaises(NoSighting) as caught:
                sighting_text(thing)
            self.assertEqual(caught.exception.at, 0)

    def test_no_text(self):
        wrong = [
            "", " ", ":", " : ", "a", "a b", "a b c", "a b :", "a b : ", " : a", ": a", "a b : a >", "a b : a b > ",
            "a b : > a", "a b :  > a", "a b : a b > a b", "a b : a b > a > b", "a b : a b >a", "a b : a b> a", "a b: a",
            "a b :a", "a  b : a", "a b  : a", "a b :  a", "a b : a  b", "a b : a b  > a", "a b : a b >  a", " a b : a",
            "a b : a ", "a b : a\n", "\na b : a", "a b : a : b", "a b : : a", "a b > a : b", "> a b : a",
            "a b : a b > a ",
            "A b : b", "a b1 : a", "a b : a B", "a b : a b > B", "abcdefghi b : b", "a b : a b > None", "a b : a b > 0",
            "a, b : a", "a\nb : a", "a b : a b > a\n", "(a b : a)", "a b : 1", ":: a : b",
        ]
        for thing in wrong + [thing for thing in ANYTHING if thing != "a b : a"] + [["a b : a"], ("a b", ":", "a")]:
            with self.subTest(thing=thing), self.assertRaises(NoText) as caught:
                read_sighting(thing)
            self.assertEqual(caught.exception.row, 0)

    def test_then_no_sighting(self):
        wrong = [
            "a : a", "a b : c", "a a : a", "a b a : a", "a b : a a", "a b : a b a", "a b : a > b", "a b c : a b > c",
            "a b : a b > c", " ".join(row_of(13)) + " : a", "a b : a b > z", "a b : a b b", "z : y > x",
        ]
        for text in wrong:
            with self.subTest(text=text), self.assertRaises(NoSighting) as caught:
                read_sighting(text)
            self.assertEqual(caught.exception.at, 0)


if __name__ == "__main__":
    unittest.main()
