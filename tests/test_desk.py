"""[12.2]: the rows of the desk with their answers, what is refused there, and what is no row."""

import unittest

from goersay.desk import Desk, answers
from goersay.errors import NoText
from goersay.far import round_at
from goersay.house import House
from goersay.maycome import how_many, sure
from goersay.papers import fewest_last

from deeds import random_deed
from rounds import HUGE, Mixed, row_of
from test_texts import NO_FIGURES, NO_WORDS
from things import ANYTHING

RING = "ring a 1 b 6 c 4 d -7"
# One row of each form that may stand behind a ring, none of them refused, that leave a b c d e and w.
ROWS = [
    "watch w", "round a w:4>", "more a 3", "anew b -5", "swap a b", "seat c d", "come e 9 2", "go e", "knows w",
    "may w a", "sure w a", "far a 5", "fewest a b", "judge", "undo",
]
# Behind each word what is due: n a name, f figures, e an eye.
FORMS = {
    "watch": "n", "more": "nf", "anew": "nf", "swap": "nn", "seat": "nn", "come": "nff", "go": "n", "knows": "n",
    "may": "nn", "sure": "nn", "far": "nf", "fewest": "nn", "judge": "", "undo": "", "ring": "nfnf", "round": "nee",
}


def some():
    """A desk with a watcher w who saw a round whole, and v who saw nothing."""
    desk = Desk()
    for row in (RING, "watch w", "round a w:4>", "watch v"):
        desk.say(row)
    return desk


def wide(many):
    return "ring " + " ".join(f"{name} 1" for name in row_of(many))


def stands(desk):
    """Answers by which it shows that a house stands as it did."""
    rows = ["judge", "knows v", "knows w", "knows x"]
    rows += [f"far {name} {k}" for name in row_of(13) for k in (0, 1)]
    return [desk.say(row) for row in rows]


class DeskTest(unittest.TestCase):
    def assert_says(self, desk, *pairs):
        for row, wished in pairs:
            with self.subTest(row=row):
                self.assertEqual(desk.say(row), wished)


class RowsTest(DeskTest):
    def test_ring(self):
        desk = Desk()
        self.assert_says(desk, ("ring a 1 b 2", "ok"), ("far b 0", "b a"), (RING, "ok"), ("far a 0", "a c d b"),
                         ("undo", "nothing"), ("ring zz " + "9" * 60 + " y -" + "9" * 60, "ok"), ("far y 0", "y zz"),
                         (wide(12), "ok"), ("far l 0", "l b d f h j a e i c k g"))
        self.assertEqual(desk.say(row="ring b 0 a 0"), "ok")

    def test_deeds(self):
        self.assert_says(
            Desk(), (RING, "ok"), ("watch w", "ok"), ("round a w:4>", "a c d b > a"),
            ("knows w", "a 1/3, b 2/4, c 0/2, d 0/1"),
            ("more a -2", "ok"), ("knows w", "a 2/3, b 2/4, c 0/2, d 0/1"), ("more a 3", "ok"), ("more a -1", "ok"),
            ("anew c 5", "ok"), ("knows w", "a 1/3, b 2/4, c 0/1, d 0/1"), ("far a 0", "a c b d"),
            ("swap a b", "ok"), ("knows w", "a 2/4, b 1/3, c 0/1, d 0/1"), ("seat a d", "ok"),
            ("knows w", "d 0/1, b 1/3, c 0/1, a 2/4"), ("come e 7 1", "ok"),
            ("knows w", "d 0/1, e 0/1, b 1/3, c 0/1, a 2/4"), ("go b", "ok"), ("knows w", "d 0/1, e 0/1, c 0/1, a 2/4"),
            ("judge", "ok"),
        )

    def test_round(self):
        desk = some()
        self.assert_says(desk, ("round b", "b c d a > c"), ("round a v:2", "a c d b > a"),
                         ("knows v", "a 1/3, b 0/1, c 0/1, d 0/1"), ("round c w:1 v:4", "c a d b > a"),
                         ("knows v", "a 1/6, b 0/1, c 1/3, d 0/1"), ("round a v:4> w:4>", "a c d b > a"),
                         ("knows v", "a 1/6, b 2/4, c 4/6, d 0/1"), ("knows w", "a 1/3, b 2/4, c 0/2, d 0/1"))

    def test_undo(self):
        desk = some()
        self.assert_says(desk, ("more a 3", "ok"), ("undo", "ok"), ("undo", "ok"), ("knows v", "refused nowatcher"),
                         ("undo", "ok"), ("knows w", "a 0/1, b 0/1, c 0/1, d 0/1"), ("undo", "ok"),
                         ("knows w", "refused nowatcher"), ("undo", "nothing"), ("undo", "nothing"), ("judge", "ok"))

    def test_may_and_sure(self):
        self.assert_says(some(), ("may w a", "1"), ("sure w a", "a c d b"), ("may w b", "5"), ("sure w b", "b"),
                         ("may v a", "6"), ("sure v a", "a"), ("may w d", "4"))
        desk = Desk()
        self.assert_says(desk, (wide(12), "ok"), ("watch w", "ok"), ("may w c", "39916800"), ("sure w c", "c"))

    def test_far(self):
        self.assert_says(some(), ("far a 0", "a c d b"), ("far b 0", "b c d a"), ("far b 1", "c a d b"),
                         ("far b 2", "a c d b"), ("far d 99999999999999999999999999", "a c d b"))

    def test_fewest(self):
        self.assert_says(some(), ("fewest a b", "0 a c d b"), ("fewest a c", "2 a b d c"), ("fewest a d", "1 a b c d"))

    def test_judge(self):
        desk = some()
        for row in ROWS:
            desk.say(row)
            self.assertEqual(desk.say("judge"), "ok")

    def test_each_form_is_taken(self):
        for at, row in enumerate(ROWS):
            desk = Desk()
            desk.say(RING)
            for ahead in ROWS[:at]:
                desk.say(ahead)
            told = desk.say(row)
            self.assertNotEqual(told, "no row", row)
            self.assertFalse(told.startswith("refused"), row)
            self.assertEqual({row.split(" ")[0] for row in ROWS + [RING]}, set(FORMS))

    def test_names_that_are_words_of_the_desk(self):
        self.assert_says(
            Desk(), ("ring ring 1 watch 6 undo 4 round -7", "ok"), ("watch judge", "ok"), ("watch ok", "ok"),
            ("round ring judge:4> ok:1", "ring undo round watch > ring"), ("more ring 0", "ok"),
            ("anew round -1", "ok"),
            ("swap ring watch", "ok"), ("swap watch ring", "ok"), ("seat undo round", "ok"), ("seat round undo", "ok"),
            ("come go 0 4", "ok"), ("go go", "ok"), ("knows judge", "ring 1/3, watch 2/4, undo 0/2, round 0/1"),
            ("may judge ring", "1"), ("sure judge ring", "ring undo round watch"),
            ("far undo 0", "undo ring round watch"),
            ("fewest ring watch", "0 ring undo round watch"), ("judge", "ok"), ("undo", "ok"),
        )

    def test_as_a_house(self):
        for turn in range(12):
            mixed = Mixed(turn + 5)
            ring = mixed.ring(mixed.between(2, 6))
            house, desk = House(ring.names(), ring.slips()), Desk()
            desk.say("ring " + " ".join(f"{name} {slip}" for name, slip in ring.slips().items()))
            for _ in range(25):
                deed = random_deed(mixed, house.ring().names(), house.watchers(), most=6)
                told = house.do(deed)
                if deed[0] == "round":
                    eyes = [f"{watcher}:{many}{'>' * then}" for watcher, many, then in deed[2]]
                    self.assertEqual(desk.say(" ".join(["round", deed[1], *eyes])), " ".join(told[0]) + " > " + told[1])
                else:
                    self.assertEqual(desk.say(" ".join(str(part) for part in deed)), "ok")
                self.assert_as(desk, house, mixed)

    def assert_as(self, desk, house, mixed):
        names = house.ring().names()
        begin, last = mixed.shuffled(names)[:2]
        k = mixed.below(HUGE)
        self.assertEqual(desk.say(f"far {begin} {k}"), " ".join(round_at(house.ring(), begin, k)))
        number, order, _ = fewest_last(house.ring(), begin, last)
        self.assertEqual(desk.say(f"fewest {begin} {last}"), " ".join([str(number), *order]))
        for watcher in house.watchers():
            known = house.known(watcher)
            rests = ", ".join(f"{name} {known.rest(name)[0]}/{known.rest(name)[1]}" for name in names)
            self.assertEqual(desk.say(f"knows {watcher}"), rests)
            self.assertEqual(desk.say(f"may {watcher} {begin}"), str(how_many(known, names, begin)))
            self.assertEqual(desk.say(f"sure {watcher} {begin}"), " ".join(sure(known, names, begin)))


class RefusedTest(DeskTest):
    def assert_refused(self, desk, *pairs):
        for row, word in pairs:
            with self.subTest(row=row):
                ahead = stands(desk)
                self.assertEqual(desk.say(row), f"refused {word}")
                self.assertEqual(stands(desk), ahead)

    def test_no_ring(self):
        for row in ("ring a 1", "ring a 1 a 2", "ring a 1 b 2 a 3", wide(13), "ring b 7 b 7"):
            self.assert_refused(some(), (row, "noring"))
            desk = Desk()
            self.assert_says(desk, (row, "refused noring"), ("judge", "no row"), ("undo", "no row"))

    def test_no_name(self):
        self.assert_refused(
            some(), ("round e", "noname"), ("round w w:1", "noname"), ("more e 1", "noname"), ("anew e 1", "noname"),
            ("swap e a", "noname"), ("swap a e", "noname"), ("swap e e", "noname"), ("seat e a", "noname"),
            ("seat a e", "noname"), ("come a 1 0", "noname"), ("come a 1 9", "noname"), ("go e", "noname"),
            ("may w e", "noname"), ("sure w e", "noname"), ("far e 0", "noname"), ("far e -1", "noname"),
            ("fewest e a", "noname"), ("fewest a e", "noname"), ("fewest e e", "noname"), ("round e x:1", "noname"),
        )

    def test_no_number(self):
        self.assert_refused(
            some(), ("round a w:0", "nonumber"), ("round a w:5", "nonumber"), ("round a w:-1", "nonumber"),
            ("round a w:5>", "nonumber"), ("come e 1 5", "nonumber"), ("come e 1 -1", "nonumber"),
            ("far a -1", "nonumber"),
            ("far a -" + "9" * 60, "nonumber"), ("round a w:4 v:0 x:1", "nonumber"),
        )

    def test_no_order(self):
        self.assert_refused(some(), ("fewest a a", "noorder"), ("fewest d d", "noorder"))

    def test_no_deed(self):
        self.assert_refused(
            some(), ("swap a a", "nodeed"), ("seat b b", "nodeed"), ("round a w:1 w:2", "nodeed"),
            ("round a w:3>", "nodeed"),
            ("round a x:1 x:1", "nodeed"), ("round a v:4> w:1>", "nodeed"), ("round a w:9 w:9", "nodeed"),
        )

    def test_no_watcher(self):
        self.assert_refused(
            some(), ("watch w", "nowatcher"), ("round a x:1", "nowatcher"), ("round a x:0", "nowatcher"),
            ("knows x", "nowatcher"), ("knows a", "nowatcher"), ("may x a", "nowatcher"), ("sure x a", "nowatcher"),
            ("may x e", "nowatcher"), ("sure x e", "nowatcher"), ("round a w:1 x:9>", "nowatcher"),
        )

    def test_too_many(self):
        desk = some()
        for name in row_of(10):
            desk.say(f"watch {name}")
        self.assert_refused(desk, ("watch z", "toomany"), ("watch a", "nowatcher"))
        desk.say(wide(12))
        self.assert_refused(desk, ("come z 1 0", "toomany"), ("come z 1 13", "nonumber"), ("fewest a b", "toomany"),
                            ("fewest z z", "toomany"))
        desk.say(wide(9))
        self.assert_refused(desk, ("fewest a b", "toomany"))
        desk.say(wide(8))
        self.assertFalse(desk.say("fewest a b").startswith("refused"))
        desk.say("ring a 1 b 2")
        self.assert_refused(desk, ("go a", "toomany"), ("go b", "toomany"), ("go c", "noname"))


class NoRowTest(DeskTest):
    def assert_no_rows(self, desk, rows):
        ahead = stands(desk)
        for row in rows:
            with self.subTest(row=row):
                self.assertEqual(desk.say(row), "no row")
        self.assertEqual(stands(desk), ahead)

    def test_ahead_of_the_first_house(self):
        desk = Desk()
        for row in ROWS + ["", "ring", "ring a", "ring a 1 b"]:
            self.assert_says(desk, (row, "no row"))
        self.assert_says(desk, ("ring a 1", "refused noring"), ("judge", "no row"), (RING, "ok"), ("judge", "ok"))
        # Behind a ring that is refused the house is still there.
        self.assert_says(desk, ("ring a 1", "refused noring"), ("judge", "ok"), ("far a 0", "a c d b"))

    def test_other_words(self):
        self.assert_no_rows(some(), [
            "", " ", "  ", "look", "look a", "Ring a 1 b 2", "RING", "undone", "know w", "names a b", "watch: w",
            "undo.",
            "nothing", "ok", "a", "1", "-", ":", ">", "w:4>", "no row", "ring:a 1 b 2", "judge\n", "undo\n", "watch\nw",
        ])

    def test_too_few_and_too_many_words(self):
        for row in ROWS + [RING]:
            words = row.split(" ")
            rows = [" ".join(words[:many]) for many in range(len(words))]
            rows += [" ".join([*words, more]) for more in ("a", "1", "w:1:1", "a b")]
            rows += [f"{row} ", f" {row}", f"{row}  ", f"{row}\n", row.upper(), row.replace(" ", "\n", 1) + "\n"]
            rows += [row.replace(" ", "  ", 1)] * (len(words) > 1) + [row.replace(" ", "  ")] * (len(words) > 1)
            if words[0] == "round":
                rows.remove("round a")
            if words[0] == "ring":
                for many in (3, 5, 7):
                    rows.remove(" ".join(words[:many]))
                rows = [other for other in rows if other != f"{row} a b"] + [f"{row} a b"]
            self.assert_no_rows(some(), rows)

    def test_what_is_no_name_or_no_figures(self):
        good = {"n": "a", "f": "1", "e": "w:1"}
        for word, form in FORMS.items():
            for at, kind in enumerate(form):
                parts = [good[other] for other in form]
                wrong = {"n": NO_WORDS, "f": NO_FIGURES}.get(kind)
                if kind == "e":
                    wrong = [f"{name}:1" for name in NO_WORDS] + [f"w:{figures}" for figures in NO_FIGURES]
                    wrong += [f"{name}:1>" for name in NO_WORDS] + [f"w:{figures}>" for figures in NO_FIGURES]
                    wrong += ["w", "w:", ":1", "w1", "w:1>>", "w:>", "w:>1", "w>:1", ">w:1", "w:1:1", "w::1", "w:1 >"]
                rows = [" ".join([word, *parts[:at], thing, *parts[at + 1:]]) for thing in wrong]
                if word == "round" and kind == "n":
                    rows += [f"round {thing}" for thing in wrong]
                self.assert_no_rows(some(), rows)

    def test_a_row_that_is_none_is_told_ahead_of_what_is_refused(self):
        self.assert_no_rows(some(), ["more e 01", "round e w1", "come a 1 00", "ring a 1 a -0", "far e 1.", "go E",
                                     "round a x:1 w:01", "swap e E", "may x E"])

    def test_of_anything(self):
        self.assert_no_rows(some(), ANYTHING)


class AnswersTest(DeskTest):
    def test_of_a_new_desk(self):
        rows = ["judge", RING, *ROWS, "look", "undo", "more e 1", "", "ring a 1", "judge"]
        desk = Desk()
        wished = [desk.say(row) for row in rows]
        told = answers("".join(f"{row}\n" for row in rows))
        self.assertIsInstance(told, list)
        self.assertEqual(told, wished)
        self.assertEqual(answers(text="judge\n"), ["no row"])
        self.assertEqual(answers("\n"), ["no row"])
        self.assertEqual(answers(f"{RING}\n\njudge\n"), ["ok", "no row", "ok"])

    def test_of_one_without_signs(self):
        self.assertEqual(answers(""), [])
        answers("").append("ok")
        self.assertEqual(answers(""), [])

    def test_no_text(self):
        lacking = {RING: 1, f"{RING}\nundo": 2, "\n\nx": 3, " ": 1, "look\nlook": 2, "a\n b\n c\n d": 4}
        for text, row in lacking.items():
            with self.subTest(text=text), self.assertRaises(NoText) as caught:
                answers(text)
            self.assertEqual(caught.exception.row, row)
        for thing in [thing for thing in ANYTHING if not isinstance(thing, str)] + [["judge\n"], ("judge\n",)]:
            with self.subTest(thing=thing), self.assertRaises(NoText) as caught:
                answers(thing)
            self.assertEqual(caught.exception.row, 0)


if __name__ == "__main__":
    unittest.main()
