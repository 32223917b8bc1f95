"""[1.1] rests: what is one, what has it, and what comes of it."""

import math
import unittest

from goersay.errors import NoNumber, NoRest
from goersay.rests import both, by, has, is_name, is_number, is_rest, least, moved

from things import ANYTHING, NO_NAMES, NO_NUMBERS, NO_RESTS

HUGE = 10 ** 59 + 7
SMALL_RESTS = [(r, m) for m in range(1, 13) for r in range(m)]


class KindsTest(unittest.TestCase):
    def assert_truth(self, told, wished, thing):
        self.assertIs(told, wished, thing)

    def test_numbers(self):
        for thing in (0, 1, -1, 1000, HUGE, -HUGE, 10 ** 60 - 1):
            self.assert_truth(is_number(thing), True, thing)
        for thing in NO_NUMBERS:
            self.assert_truth(is_number(thing), False, thing)

    def test_names(self):
        for thing in ("a", "z", "ab", "zzzzzzzz", "abcdefgh", "ijklmnop", "qrstuvwx", "yz", "ba", "aa"):
            self.assert_truth(is_name(thing), True, thing)
        for thing in NO_NAMES + [["a"], ("a", "b"), {"a": 1}]:
            self.assert_truth(is_name(thing), False, thing)

    def test_each_sign_that_is_no_small_letter_makes_no_name(self):
        for code in [10] + list(range(32, 127)):
            sign = chr(code)
            for text in (sign, "a" + sign, sign + "a", "a" + sign + "b"):
                self.assert_truth(is_name(text), "a" <= sign <= "z", text)

    def test_rests(self):
        for thing in SMALL_RESTS + [(0, 1), (HUGE - 1, HUGE), (0, HUGE), (999, 1000)]:
            self.assert_truth(is_rest(thing), True, thing)
        for thing in NO_RESTS:
            self.assert_truth(is_rest(thing), False, thing)

    def test_of_all_small_pairs(self):
        for r in range(-3, 5):
            for m in range(-3, 5):
                self.assert_truth(is_rest((r, m)), m >= 1 and 0 <= r <= m - 1, (r, m))

    def test_by_name(self):
        self.assertIs(is_rest(thing=(0, 1)), True)
        self.assertIs(is_number(thing=0), True)
        self.assertIs(is_name(thing="a"), True)


class HasTest(unittest.TestCase):
    def test_small_numbers_also_below_0(self):
        for r, m in SMALL_RESTS:
            row = [number for number in range(-36, 37) if has((r, m), number)]
            wished = [number for number in range(-36, 37) if any(number == r + m * k for k in range(-40, 41))]
            self.assertEqual(row, wished)

    def test_told_is_a_truth(self):
        self.assertIs(has((1, 3), 4), True)
        self.assertIs(has((1, 3), 5), False)
        self.assertIs(has((2, 3), -1), True)
        self.assertIs(has((1, 3), -1), False)

    def test_many_figures(self):
        self.assertIs(has((5, HUGE), 5 - HUGE), True)
        self.assertIs(has((5, HUGE), 5 + HUGE), True)
        self.assertIs(has((5, HUGE), 4 - HUGE), False)
        self.assertIs(has((7, 10), HUGE), True)
        self.assertIs(has((3, 10), -HUGE), True)

    def test_0_1_says_nothing(self):
        for number in (0, 1, -1, HUGE, -HUGE):
            self.assertIs(has((0, 1), number), True)

    def test_by_name(self):
        self.assertIs(has(number=4, rest=(1, 3)), True)

    def test_refused(self):
        for thing in NO_RESTS:
            for number in (0, None):
                with self.assertRaises(NoRest):
                    has(thing, number)
        for thing in NO_NUMBERS:
            with self.assertRaises(NoNumber):
                has((0, 1), thing)


class BothTest(unittest.TestCase):
    def test_small_rests(self):
        for one in SMALL_RESTS:
            for other in SMALL_RESTS:
                told = both(one, other)
                turn = one[1] * other[1]
                wished = [k for k in range(-turn, turn) if k % one[1] == one[0] and k % other[1] == other[0]]
                if not wished:
                    self.assertIsNone(told)
                    continue
                self.assertTrue(is_rest(told))
                self.assertEqual([k for k in range(-turn, turn) if k % told[1] == told[0]], wished)

    def test_some_by_hand(self):
        self.assertEqual(both((2, 3), (3, 5)), (8, 15))
        self.assertEqual(both((1, 4), (3, 6)), (9, 12))
        self.assertIsNone(both((1, 4), (2, 6)))
        self.assertEqual(both((3, 4), (1, 2)), (3, 4))
        self.assertEqual(both((1, 2), (3, 4)), (3, 4))
        self.assertEqual(both((0, 1), (0, 1)), (0, 1))

    def test_0_1_says_nothing(self):
        for rest in SMALL_RESTS + [(HUGE - 1, HUGE)]:
            self.assertEqual(both(rest, (0, 1)), rest)
            self.assertEqual(both((0, 1), rest), rest)
            self.assertEqual(both(rest, rest), rest)

    def test_many_figures(self):
        moduli = [10 ** 59, 10 ** 59 + 1, 6 ** 70, 10 ** 58 * 6, 2 ** 190, 3 ** 120, 12, 1]
        for number in (0, 1, -1, 123456789 ** 6, -(987654321 ** 6), 7 ** 70):
            for m in moduli:
                for n in moduli:
                    told = both((number % m, m), (number % n, n))
                    turn = m * n // math.gcd(m, n)
                    self.assertEqual(told, (number % turn, turn))

    def test_many_figures_without_a_number_in_common(self):
        self.assertIsNone(both((0, 10 ** 59), (1, 2 ** 190)))
        self.assertIsNone(both((1, 6 ** 70), (2, 10 ** 59)))

    def test_by_name(self):
        self.assertEqual(both(other=(3, 5), one=(2, 3)), (8, 15))

    def test_refused(self):
        for thing in NO_RESTS:
            with self.assertRaises(NoRest):
                both(thing, (0, 1))
            with self.assertRaises(NoRest):
                both((0, 1), thing)


class ByTest(unittest.TestCase):
    def test_small_rests_by_small_moduli(self):
        for r, m in SMALL_RESTS:
            for n in range(1, 25):
                wished = [k for k in range(n) if any((r + m * step) % n == k for step in range(-24, 25))]
                self.assertEqual(by((r, m), n), wished)

    def test_each_modulus_from_1_to_1000(self):
        for n in range(1, 1001):
            self.assertEqual(by((0, 1), n), list(range(n)))
            self.assertEqual(by((5, 1000), n), [k for k in range(n) if (k - 5) % math.gcd(1000, n) == 0])

    def test_many_figures(self):
        self.assertEqual(by((HUGE - 1, HUGE), 1), [0])
        self.assertEqual(by((10 ** 59 + 3, 10 ** 60), 10), [3])
        self.assertEqual(by((10 ** 59 + 3, 10 ** 60), 12), [3, 7, 11])
        self.assertEqual(by((10 ** 59 + 3, 10 ** 60), 1000), [3])

    def test_told_lists_are_new_ones(self):
        first = by((0, 2), 4)
        first.append(9)
        self.assertEqual(by((0, 2), 4), [0, 2])

    def test_by_name(self):
        self.assertEqual(by(m=4, rest=(1, 2)), [1, 3])

    def test_refused(self):
        for thing in NO_RESTS:
            for m in (1, 0, None):
                with self.assertRaises(NoRest):
                    by(thing, m)
        for m in NO_NUMBERS + [0, -1, 1001, HUGE, -HUGE]:
            with self.assertRaises(NoNumber):
                by((0, 1), m)


class MovedTest(unittest.TestCase):
    def test_small_rests(self):
        for rest in SMALL_RESTS:
            for k in range(-26, 27):
                told = moved(rest, k)
                self.assertTrue(is_rest(told))
                for number in range(-13, 14):
                    self.assertEqual(has(told, number + k), has(rest, number))

    def test_by_hand(self):
        self.assertEqual(moved((1, 3), 2), (0, 3))
        self.assertEqual(moved((1, 3), -2), (2, 3))
        self.assertEqual(moved((0, 1), -7), (0, 1))

    def test_many_figures(self):
        self.assertEqual(moved((HUGE - 1, HUGE), 1), (0, HUGE))
        self.assertEqual(moved((0, HUGE), -1), (HUGE - 1, HUGE))
        self.assertEqual(moved((2, 10), -HUGE), (5, 10))

    def test_by_name(self):
        self.assertEqual(moved(k=2, rest=(1, 3)), (0, 3))

    def test_refused(self):
        for thing in NO_RESTS:
            for k in (0, None):
                with self.assertRaises(NoRest):
                    moved(thing, k)
        for thing in NO_NUMBERS:
            with self.assertRaises(NoNumber):
                moved((0, 1), thing)


class LeastTest(unittest.TestCase):
    def test_small_rests(self):
        for rest in SMALL_RESTS:
            self.assertEqual(least(rest), min(k for k in range(12) if has(rest, k)))

    def test_many_figures(self):
        self.assertEqual(least((HUGE - 1, HUGE)), HUGE - 1)
        self.assertEqual(least(rest=(0, HUGE)), 0)

    def test_refused(self):
        for thing in NO_RESTS:
            with self.assertRaises(NoRest):
                least(thing)


class OfAnythingTest(unittest.TestCase):
    def test_truths_alone_are_told(self):
        for thing in ANYTHING + [[x] for x in ANYTHING] + [(x, y) for x in ANYTHING for y in ANYTHING]:
            for told in (is_rest(thing), is_number(thing), is_name(thing)):
                self.assertIn(told, (True, False))
                self.assertIsInstance(told, bool)


if __name__ == "__main__":
    unittest.main()
