"""[11.1], [0.2] (h): logs, the first row that can't be, and the least slips that lead to all rows."""

import itertools
import unittest

from goersay.errors import NoLog
from goersay.house import House
from goersay.logs import first_wrong, log_of, slips_of

from deeds import Shadow, random_deed, random_eyes
from rounds import HUGE, Mixed, row_of
from test_house import SOME_DEEDS, random_house, some
from test_maycome import NO_SEATS
from things import ANYTHING, NO_NAMES, NO_NUMBERS, NO_ROWS, nested

NAMES = ("names", ("a", "b", "c"))
WATCH = ("watch", "w")
# a says 1 by 2; b, the last one, says 0 by 3.
ROUND = ("round", "a", ("a", "c", "b"), "c", (("w", 2, False),))
LOG = [NAMES, WATCH, ROUND, ("more", "a", 3), ("anew", "b"), ("swap", "a", "c"), ("seat", "b", "c"), ("come", "d", 1),
       ("go", "a"), ("round", "d", ("d", "c", "b"), "d", ())]


def done_by(log, slips):
    """The house that does what is told in the log, of these slips as they came."""
    names, new = log[0][1], list(slips[len(log[0][1]):])
    house = House(names, dict(zip(names, slips)))
    for row in log[1:]:
        if row[0] == "round":
            house.do(("round", row[1], row[4]))
        elif row[0] == "anew":
            house.do((*row, new.pop(0)))
        elif row[0] == "come":
            house.do((*row[:2], new.pop(0), row[2]))
        else:
            house.do(row)
    return house


def slips_in(log):
    return len(log[0][1]) + sum(row[0] in ("anew", "come") for row in log[1:])


def brings(log, slips):
    """Whether these slips, as they came, bring all rounds of the log, played by words."""
    names, new = log[0][1], list(slips[len(log[0][1]):])
    shadow = Shadow(list(names), dict(zip(names, slips)), 2)
    for row in log[1:]:
        if row[0] == "round":
            if shadow.play(row[1], ()) != (row[2], row[3]):
                return False
        elif row[0] == "anew":
            shadow.do((*row, new.pop(0)))
        elif row[0] == "come":
            shadow.do((*row[:2], new.pop(0), row[2]))
        elif row[0] != "watch":
            shadow.do(row)
    return True


def all_that_bring(log, period):
    return [slips for slips in itertools.product(range(period), repeat=slips_in(log)) if brings(log, slips)]


class LogOfTest(unittest.TestCase):
    def test_of_every_kind_of_deed(self):
        house = House(["a", "b", "c"], {"a": 1, "b": 2, "c": 0})
        for deed in (("watch", "w"), ("round", "a", (("w", 2, False),)), ("more", "a", 3), ("anew", "b", 9),
                     ("swap", "a", "c"), ("seat", "b", "c"), ("come", "d", 1, 1), ("go", "a")):
            house.do(deed)
        self.assertEqual(house.ring().names(), ["d", "c", "b"])
        self.assertEqual(house.do(("round", "d", ())), (("d", "b", "c"), "d"))
        wished = [("names", ("a", "b", "c")), ("watch", "w"), ("round", "a", ("a", "c", "b"), "b", (("w", 2, False),)),
                  ("more", "a", 3), ("anew", "b"), ("swap", "a", "c"), ("seat", "b", "c"), ("come", "d", 1),
                  ("go", "a"),
                  ("round", "d", ("d", "b", "c"), "d", ())]
        self.assertEqual(log_of(house), wished)
        self.assertIsInstance(log_of(house), list)
        self.assertEqual({type(row) for row in log_of(house)}, {tuple})

    def test_of_no_deeds(self):
        self.assertEqual(log_of(House(["b", "a"], {"a": 1, "b": 2})), [("names", ("b", "a"))])

    def test_behind_undo(self):
        house = some()
        ahead = log_of(house)
        house.all_done(SOME_DEEDS)
        self.assertEqual(len(log_of(house)), len(ahead) + len(SOME_DEEDS))
        for _ in SOME_DEEDS:
            house.undo()
        self.assertEqual(log_of(house), ahead)
        house.undo()
        self.assertEqual(log_of(house), ahead[:-1])
        while house.undo():
            pass
        self.assertEqual(log_of(house), ahead[:1])

    def test_slips_are_left_out(self):
        for turn in range(20):
            mixed = Mixed(turn)
            house, _ = random_house(mixed, 15)
            log = log_of(house)
            self.assertEqual(len(log), len(house.deeds()) + 1)
            for row, deed in zip(log[1:], house.deeds()):
                if row[0] == "round":
                    self.assertEqual((row[0], row[1], row[4]), deed)
                elif row[0] == "anew":
                    self.assertEqual(row, deed[:2])
                elif row[0] == "come":
                    self.assertEqual(row, (deed[0], deed[1], deed[3]))
                else:
                    self.assertEqual(row, deed)

    def test_the_house_stays(self):
        house = some()
        log_of(house).clear()
        self.assertEqual(log_of(house=house), log_of(some()))
        self.assertEqual(house, some())
        self.assertEqual(house.known("w").seen(), some().known("w").seen())


class FirstWrongTest(unittest.TestCase):
    def assert_wrong(self, log, row):
        with self.subTest(log=log):
            self.assertEqual(first_wrong(log), row)
            self.assertEqual(first_wrong(tuple(log)), row)
            with self.assertRaises(NoLog) as caught:
                slips_of(log)
            self.assertEqual(caught.exception.row, row)

    def test_of_logs_that_can_be(self):
        for log in (LOG, tuple(LOG), [NAMES], (NAMES,), [("names", tuple(row_of(12)))]):
            self.assertIsNone(first_wrong(log))
        for many in range(1, len(LOG) + 1):
            self.assertIsNone(first_wrong(LOG[:many]))
        for turn in range(40):
            house, _ = random_house(Mixed(turn), 20)
            self.assertIsNone(first_wrong(log_of(house)))

    def test_of_no_list_and_without_rows(self):
        for thing in [thing for thing in ANYTHING if not isinstance(thing, (list, tuple))] + [{0: NAMES}, "names"]:
            with self.subTest(thing=thing):
                self.assertEqual(first_wrong(thing), 0)
                with self.assertRaises(NoLog) as caught:
                    slips_of(thing)
                self.assertEqual(caught.exception.row, 0)
        self.assert_wrong([], 0)

    def test_no_first_row(self):
        for thing in ANYTHING + [("names",), ("names", ("a", "b"), 0), ("name", ("a", "b")), ["names", ("a", "b")],
                                 ("names", ["a", "b"]), WATCH, ("names", "ab"), ("names", {"a": 1, "b": 2}), "names"]:
            self.assert_wrong([thing], 0)
            self.assert_wrong([thing, *LOG], 0)
        for names in NO_ROWS:
            self.assert_wrong([("names", names)], 0)
            if isinstance(names, list):
                self.assert_wrong([("names", tuple(names)), WATCH], 0)

    def test_no_row(self):
        wrong = ANYTHING + [
            NAMES, ("watch",), ("watch", "x", 0), list(WATCH), ("Watch", "x"), ("round", "a", ("a", "b", "c"), "a"),
            ("round", "a", ()), ("round", "a", ("a", "b", "c"), "a", (), ()), ("more", "a"), ("more", "a", 1, 1),
            ("anew", "a", 5), ("anew",), ("come", "e", 1, 0), ("come", "e"), ("swap", "a"), ("seat", "a", "b", "c"),
            ("go",),
            ("go", "a", 0), ("undo",), ["go", "a"], "go a", (["go"], "a"), (("go", "a"),), nested(20),
            (nested(18), "a"),
        ]
        for thing in wrong:
            self.assert_wrong([NAMES, thing], 1)
            self.assert_wrong([NAMES, WATCH, thing, None], 2)
            self.assert_wrong([*LOG, thing, ("go", "b")], len(LOG))

    def test_refused_by_a_house(self):
        for thing in NO_NAMES + ["e", ["a"]]:
            for row in (("more", thing, 1), ("anew", thing), ("swap", thing, "a"), ("swap", "a", thing), ("go", thing),
                        ("seat", thing, "a"), ("seat", "a", thing), ("round", thing, ("a", "b", "c"), "a", ())):
                self.assert_wrong([NAMES, row], 1)
        for thing in NO_NAMES + ["a", "b", "c", ["e"]]:
            self.assert_wrong([NAMES, ("come", thing, 0)], 1)
        for thing in NO_NAMES + ["w", ["x"]]:
            self.assert_wrong([NAMES, WATCH, ("watch", thing), WATCH], 2)
        for thing in NO_NUMBERS + [-1, 4, HUGE]:
            self.assert_wrong([NAMES, ("come", "e", thing)], 1)
        for thing in NO_NUMBERS:
            self.assert_wrong([NAMES, ("more", "a", thing)], 1)
        for row in (("swap", "a", "a"), ("seat", "b", "b")):
            self.assert_wrong([NAMES, row], 1)
        for eyes in ([], None, (("x", 1, False),), (("w", 0, False),), (("w", 4, False),), (("w", 2, True),),
                     (("w", 3, 1),), (("w", 1, False), ("w", 2, False)), ("w", 1, False), (["w", 1, False],)):
            self.assert_wrong([NAMES, WATCH, (*ROUND[:4], eyes)], 2)
        self.assert_wrong([NAMES, ROUND], 1)
        self.assert_wrong([NAMES, ("go", "a"), ("go", "b")], 2)
        self.assert_wrong([NAMES, ("go", "a"), ("more", "a", 1)], 2)
        watching = [("watch", name) for name in row_of(12)]
        self.assertIsNone(first_wrong([NAMES, *watching]))
        self.assert_wrong([NAMES, *watching, WATCH], 13)
        self.assert_wrong([("names", tuple(row_of(12))), ("come", "z", 0)], 1)

    def test_an_order_of_others(self):
        for order in NO_SEATS + [("b", "a", "c"), ("a", "b"), ("a", "b", "c", "d"), ("a", "b", "d"), ["a", "b", "c"],
                                 ("c", "b", "a"), ("a", "b", "b")]:
            self.assert_wrong([NAMES, ("round", "a", order, "a", ())], 1)
        self.assert_wrong([NAMES, ("go", "c"), ("round", "a", ("a", "b", "c"), "a", ())], 2)
        self.assert_wrong([NAMES, ("come", "d", 0), ("round", "a", ("a", "b", "c"), "a", ())], 2)
        self.assertIsNone(first_wrong([NAMES, ("come", "d", 0), ("round", "a", ("a", "b", "c", "d"), "a", ())]))

    def test_another_then(self):
        for then in NO_NAMES + ["d", "w", ["a"], ("a",), None]:
            self.assert_wrong([NAMES, ("round", "a", ("a", "b", "c"), then, ())], 1)
        for then in "abc":
            self.assertIsNone(first_wrong([NAMES, ("round", "a", ("a", "b", "c"), then, ())]))

    def test_rounds_that_no_slips_bring(self):
        one, other = ("round", "a", ("a", "b", "c"), "a", ()), ("round", "a", ("a", "c", "b"), "a", ())
        self.assert_wrong([NAMES, one, other], 2)
        self.assert_wrong([NAMES, one, one, ("watch", "v"), other, None], 4)
        # It can be where a's slip was an odd number less ahead, or is another one there.
        for between in (("more", "a", 1), ("more", "a", -HUGE * 2 - 3), ("anew", "a"), ("swap", "a", "b"),
                        ("swap", "c", "a")):
            self.assertIsNone(first_wrong([NAMES, one, between, other]), between)
        for between in (("more", "a", 2), ("more", "b", 1), ("anew", "b"), ("swap", "b", "c"),
                        ("more", "a", -HUGE * 4)):
            self.assert_wrong([NAMES, one, between, other], 3)
        # Where b and c exchange seats, a's leads on to c; where a goes and comes again, it has another slip.
        self.assert_wrong([NAMES, one, ("seat", "b", "c"), one], 3)
        self.assertIsNone(first_wrong([NAMES, one, ("seat", "b", "c"), other]))
        self.assertIsNone(first_wrong([NAMES, one, ("go", "a"), ("come", "a", 0), other]))
        self.assert_wrong([NAMES, one, ("go", "c"), ("come", "c", 2), other], 4)
        # The last one's slip is held to who begins next.
        self.assert_wrong([NAMES, one, ("round", "a", ("a", "b", "c"), "b", ())], 2)
        self.assert_wrong([NAMES, one, ("more", "c", 1), one], 3)
        self.assertIsNone(first_wrong([NAMES, one, ("more", "c", 1), ("round", "a", ("a", "b", "c"), "b", ())]))

    def test_of_few_by_all_slips(self):
        found = set()
        for turn in range(120):
            mixed = Mixed(turn + 3)
            log = self.random_log(mixed)
            wished = None
            for at in range(1, len(log) + 1):
                if not all_that_bring(log[:at], 6):
                    wished = at - 1
                    break
            self.assertEqual(first_wrong(log), wished)
            if wished is None:
                self.assert_least_of_all(log)
            found.add(wished)
        self.assertGreater(len(found), 4)
        self.assertIn(None, found)

    def random_log(self, mixed):
        """A log of two or three hands, at most five slips, in which some rounds may be as no slips bring."""
        house, log = House(row_of(3), {name: mixed.below(6) for name in row_of(3)}), [("names", ("a", "b", "c"))]
        while len(log) < 9:
            deed = random_deed(mixed, house.ring().names(), house.watchers(), most=3)
            if deed[0] in ("anew", "come") and slips_in(log) == 5:
                continue
            told = house.do(deed)
            names = house.ring().names()
            if deed[0] == "round":
                order, then = told
                if mixed.below(4) == 0:
                    order = (deed[1], *mixed.shuffled([name for name in names if name != deed[1]]))
                    then = mixed.one_of([then, *names])
                log.append(("round", deed[1], order, then, random_eyes(mixed, house.watchers(), len(names))))
            else:
                log.append(log_of(house)[-1])
        return log

    def assert_least_of_all(self, log):
        bringing = all_that_bring(log, 6)
        told = slips_of(log)
        self.assertIn(tuple(told), bringing)
        self.assertEqual(told, [min(column) for column in zip(*bringing)])

    def test_another_row_of_a_log_that_can_be(self):
        # A round told otherwise is wrong at once where its slips were all seen by what they say there.
        for turn in range(30):
            mixed = Mixed(turn + 23)
            ring = mixed.ring(mixed.between(3, 12))
            house = House(ring.names(), ring.slips())
            for begin in ring.names():
                house.do(("round", begin, ()))
            log = log_of(house)
            self.assertIsNone(first_wrong(log))
            row = mixed.one_of(log[1:])
            order = row[2]
            for others, then in (((*order[:-2], order[-1], order[-2]), row[3]),
                                 ((order[0], *order[2:], order[1]), row[3]),
                                 (order, mixed.one_of([name for name in order if name != row[3]]))):
                self.assert_wrong([*log, (*row[:2], others, then, ())], len(log))


class SlipsOfTest(unittest.TestCase):
    def test_by_hand(self):
        # a's is 1 by 2, b's 0 by 3; nothing is said of c's.
        self.assertEqual(slips_of([NAMES, WATCH, ROUND]), [1, 0, 0])
        self.assertEqual(slips_of([NAMES]), [0, 0, 0])
        self.assertEqual(slips_of([("names", ("b", "a"))]), [0, 0])
        # At last d c b sit: d's leads to c, 0 by 2; b's to d, 0 by 3. Both came later, c has that of a.
        self.assertEqual(slips_of(LOG), [1, 0, 0, 0, 0])
        # Then b's leads to c, 1 by 2, and d's to itself, 2 by 3.
        self.assertEqual(slips_of([*LOG, ("round", "b", ("b", "c", "d"), "d", ())]), [1, 0, 0, 3, 2])

    def test_as_they_were_when_they_came(self):
        one = ("round", "a", ("a", "b", "c"), "b", ())
        # a's 0 by 2, c's 1 by 3: of what they were ahead of being more.
        self.assertEqual(slips_of([NAMES, one]), [0, 0, 1])
        self.assertEqual(slips_of([NAMES, ("more", "a", 1), ("more", "c", 1), one]), [1, 0, 0])
        self.assertEqual(slips_of([NAMES, ("more", "a", -5), ("more", "c", 9), one]), [1, 0, 1])
        self.assertEqual(slips_of([NAMES, ("more", "c", HUGE), ("swap", "a", "c"), ("more", "a", 1), one]),
                         [1, 0, (-HUGE - 1) % 2])
        self.assertEqual(slips_of([NAMES, ("anew", "c"), ("more", "c", 2), one, ("anew", "c")]), [0, 0, 0, 2, 0])
        self.assertEqual(slips_of([NAMES, ("go", "c"), ("come", "c", 2), one, ("go", "c")]), [0, 0, 0, 1])

    def test_a_house_of_these_slips_has_this_log(self):
        for turn in range(60):
            mixed = Mixed(turn + 41)
            house, _ = random_house(mixed, mixed.between(0, 30))
            log = log_of(house)
            told = slips_of(log)
            self.assertIsInstance(told, list)
            self.assertEqual(len(told), slips_in(log))
            self.assertEqual(log_of(done_by(log, told)), log)
            self.assertTrue(brings(log, told))
            # None could be less by itself.
            for at, number in enumerate(told):
                self.assertGreaterEqual(number, 0)
                for less in range(number):
                    self.assertFalse(brings(log, [*told[:at], less, *told[at + 1:]]))

    def test_of_twelve(self):
        mixed = Mixed(12)
        ring = mixed.ring(12)
        house = House(ring.names(), ring.slips())
        for _ in range(25):
            house.do(random_deed(mixed, house.ring().names(), house.watchers()))
        log = log_of(house)
        self.assertEqual(log_of(done_by(log, slips_of(log))), log)

    def test_by_name_and_what_is_handed_in_stays(self):
        log = list(LOG)
        self.assertIsNone(first_wrong(log=log))
        told = slips_of(log=log)
        self.assertEqual(log, LOG)
        told.clear()
        self.assertEqual(slips_of(log), [1, 0, 0, 0, 0])


if __name__ == "__main__":
    unittest.main()
