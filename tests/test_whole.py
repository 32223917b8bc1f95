"""[0.1], [0.2]: what is promised over the whole program, a test for each letter, by rings of few hands gone through."""

import itertools
import math
import unittest

from goersay.alike import alike, alike_from, least_of, needs
from goersay.errors import Clash, GoerError
from goersay.far import begin_at, begins, lasts, round_at
from goersay.house import House
from goersay.known import Known, first_clash, is_clash
from goersay.logs import first_wrong, log_of, slips_of
from goersay.maycome import how_many, number_may, order_may, slips_for
from goersay.orders import number_of, order_at, order_by, rests_of
from goersay.papers import fewest_last, is_paper
from goersay.rings import Ring
from goersay.seen import says, sighting_of
from goersay.texts import read_ring, read_sighting, ring_text, sighting_text
from goersay.tworounds import how_many_two, slips_for_two, two_may
from goersay.wishes import changes_for, fewest_begins, fewest_eyes, slips_wished

from deeds import fitting_by, random_deed
from rounds import HUGE, Mixed, rests_by_words, ring_of, rings_of_all_lengths, row_of
from test_house import random_house, told_of
from test_known import random_sighting
from test_logs import done_by
from test_orders import orders_from

ABC = row_of(3)
# All rings of three hands, as far as any round tells them apart: each says by 1, 2 or 3.
RINGS = [ring_of(*slips) for slips in itertools.product(range(6), repeat=3)]
HARD_DEEDS = [
    ("go", "zz"), ("watch", "A"), ("more", "a", None), ("look", "a"), ("round", "a", (("w", 0, False),)), None,
]


def fits_sighting(ring, sighting):
    """Whether a ring of these slips, seated so, would have been seen to go so."""
    seats, goers, then = sighting
    there = Ring(seats, ring.slips())
    if there.order(goers[0])[:len(goers)] != goers:
        return False
    return then is None or there.next_of(goers[0]) == then


class WholeTest(unittest.TestCase):
    def test_a_round(self):
        # [0.1]: a b c d; a's 1 shows c next, whose 4 goes round to d; b is left, whose 6 leads on to a.
        ring = Ring(["a", "b", "c", "d"], {"a": 1, "b": 6, "c": 4, "d": -7})
        self.assertEqual((ring.order("a"), ring.next_of("a")), (("a", "c", "d", "b"), "a"))
        self.assertEqual(set(Known(ring.names()).rests().values()), {(0, 1)})

    def test_a_orders_and_rows_of_rests(self):
        for many in range(2, 6):
            names = Mixed(many).shuffled(row_of(many))
            for begin in names:
                orders = orders_from(names, begin)
                rows = list(itertools.product(*[range(m) for m in range(many - 1, 0, -1)]))
                self.assertEqual([order_by(names, begin, row) for row in rows],
                                 sorted(orders, key=lambda order: number_of(names, order)))
                self.assertEqual(len({rests_of(names, order) for order in orders}), len(rows))
                for number, row in enumerate(rows):
                    order = order_at(names, begin, number)
                    self.assertEqual(tuple(r for r, _ in rests_of(names, order)), row)
                    self.assertEqual(number_of(names, order), number)
                    # And just the slips that leave these rests bring it.
                    self.assertEqual(Ring(names, dict(zip(order, (*row, 7)))).order(begin), order)

    def test_b_what_was_seen(self):
        clashes = 0
        for turn in range(250):
            mixed = Mixed(turn)
            ring = mixed.one_of(RINGS) if mixed.below(2) else None
            sightings = [random_sighting(mixed, ABC, ring) for _ in range(mixed.between(1, 5))]
            fitting = [one for one in RINGS if all(fits_sighting(one, sighting) for sighting in sightings)]
            clash = first_clash(ABC, sightings)
            self.assertEqual(clash is None, len(fitting) > 0)
            if clash is None:
                known = Known(ABC)
                for sighting in sightings:
                    known.see(sighting)
                self.assertEqual([one for one in RINGS if known.fits(one.slips())], fitting)
                self.assertEqual(known.least(), slips_wished(ABC, sightings))
                continue
            # A hand and two sightings show it: no slip of that one has what both say.
            clashes += 1
            name, one, other = clash
            rests = [dict(says(sightings[at]))[name] for at in (one, other)]
            self.assertEqual(set.intersection(*[fitting_by(rest, 6) for rest in rests]), set())
            self.assertIs(is_clash(ABC, sightings, clash), True)
            with self.assertRaises(Clash):
                slips_wished(ABC, sightings)
        self.assertGreater(clashes, 20)

    def test_c_what_may_come(self):
        for turn in range(25):
            mixed = Mixed(turn + 60)
            ring, known = mixed.one_of(RINGS), Known(ABC)
            for _ in range(turn // 8):
                known.see(random_sighting(mixed, ABC, ring))
            seats = mixed.shuffled(ABC)
            rings = [Ring(seats, one.slips()) for one in RINGS if known.fits(one.slips())]
            for begin in seats:
                orders = {one.order(begin) for one in rings}
                told = [order_may(known, seats, begin, number) for number in range(how_many(known, seats, begin))]
                self.assertEqual((len(told), set(told)), (len(orders), orders))
                for number, order in enumerate(told):
                    self.assertEqual(number_may(known, seats, order), number)
                    self.assertEqual(Ring(seats, slips_for(known, seats, order)).order(begin), order)
                pairs = {(one.order(begin), one.order(one.next_of(begin))) for one in rings}
                self.assertEqual(how_many_two(known, seats, begin), len(pairs))
                for pair in itertools.product(orders_from(seats, begin), itertools.permutations(seats)):
                    self.assertIs(two_may(known, seats, *pair), pair in pairs)
                    if pair in pairs:
                        there = Ring(seats, slips_for_two(known, seats, *pair))
                        self.assertEqual((there.order(begin), there.order(there.next_of(begin))), pair)

    def test_d_far_rounds_and_alike_rings(self):
        for ring in RINGS[::5] + rings_of_all_lengths(each=2):
            for begin in ring.names():
                name, gone = begin, {hand: 0 for hand in ring.names()}
                for k in range(30):
                    self.assertEqual((begin_at(ring, begin, k), round_at(ring, begin, k)), (name, ring.order(name)))
                    self.assertEqual(lasts(ring, begin, k), gone)
                    gone[ring.order(name)[-1]] += 1
                    name = ring.next_of(name)
                turn = len(begins(ring, begin)[1])
                self.assertEqual(round_at(ring, begin, 30 + turn * HUGE), round_at(ring, begin, 30))
        played = {str(ring.slips()): [(ring.order(begin), ring.next_of(begin)) for begin in ABC] for ring in RINGS}
        for one, other in itertools.product(RINGS[::7], RINGS):
            same = [played[str(one.slips())][at] == played[str(other.slips())][at] for at in range(3)]
            self.assertIs(alike(one, other) is None, all(same))
            if not all(same):
                self.assertEqual(alike(one, other)[0], ABC[same.index(False)])
            ahead, again = begins(one, "b")
            self.assertIs(alike_from(one, other, "b") is None, all(same[ABC.index(begin)] for begin in ahead + again))
            if all(same):
                # Of those that do the same none has a lesser slip.
                self.assertTrue(all(least_of(one).slip(name) <= other.slip(name) for name in ABC))

    def test_e_fewest(self):
        for ring in [Mixed(turn).ring(4) for turn in range(8)]:
            for begin, last in itertools.permutations(ring.names(), 2):
                orders = [order for order in orders_from(ring.names(), begin) if order[-1] == last]
                number, order, paper = fewest_last(ring, begin, last)
                self.assertEqual(number, min(len(changes_for(ring, order)) for order in orders))
                self.assertEqual(len(changes_for(ring, order)), number)
                self.assertEqual([is_paper(ring, begin, last, k, paper) for k in (number, number + 1)], [True, False])
        for many in (4, 7):
            ring = Mixed(many).ring(many)
            self.assertEqual(self.told(ring, [(begin, many + 1) for begin in fewest_begins(ring)]), needs(ring))
            row = ring.names()[:4]
            numbers = fewest_eyes(ring, row)
            self.assertEqual(self.told(ring, zip(row, numbers)), self.told(ring, [(begin, many + 1) for begin in row]))

    def told(self, ring, seen):
        """By what is said of each hand where so many goers are seen from each begin, n + 1: and who begins next."""
        told = {name: 1 for name in ring.names()}
        for begin, many in seen:
            then = ring.next_of(begin) if many > len(ring) else None
            for name, (_, m) in rests_by_words(ring.names(), ring.order(begin)[:many], then).items():
                told[name] = math.lcm(told[name], m)
        return told

    def test_f_a_house(self):
        # That each slips that fit could be there is held in test_house, deed by deed.
        for turn in range(15):
            mixed = Mixed(turn + 300)
            house, shadow = random_house(mixed, 25, most=5)
            watchers = house.watchers()
            for some in [[watcher] for watcher in watchers] + [watchers] * bool(watchers):
                known = house.together(some)
                self.assertTrue(known.fits(house.ring().slips()))
                for name, rest in known.rests().items():
                    wished = set.intersection(*[shadow.fitting[watcher][name] for watcher in some])
                    self.assertEqual(fitting_by(rest, shadow.period), wished)

    def test_g_what_is_taken_back_and_what_is_refused(self):
        for turn in range(15):
            mixed = Mixed(turn + 400)
            house, _ = random_house(mixed, 12)
            ahead, wrong = told_of(house), mixed.one_of(HARD_DEEDS)
            deeds = []
            other = house.twin()
            for _ in range(6):
                deeds.append(random_deed(mixed, other.ring().names(), other.watchers()))
                other.do(deeds[-1])
            with self.assertRaises(GoerError):
                house.all_done([*deeds, wrong])
            with self.assertRaises(GoerError):
                house.do(wrong)
            self.assertEqual(told_of(house), ahead)
            house.all_done(deeds)
            self.assertEqual(told_of(house), told_of(other))
            for _ in deeds:
                house.undo()
            self.assertEqual(told_of(house), ahead)
            new = House(house.begun().names(), house.begun().slips())
            new.all_done(house.deeds())
            self.assertEqual(told_of(house), told_of(new))

    def test_h_logs_and_texts(self):
        for turn in range(15):
            mixed = Mixed(turn + 500)
            house, _ = random_house(mixed, 15)
            log = log_of(house)
            self.assertIsNone(first_wrong(log))
            self.assertEqual(log_of(done_by(log, slips_of(log))), log)
            for at in range(1, len(log)):
                self.assertEqual(first_wrong([*log[:at], ("round", "zz"), *log[at:]]), at)
            ring = house.ring()
            self.assertEqual(read_ring(ring_text(ring)), ring)
            for begin in ring.names():
                sighting = sighting_of(ring, begin, many=mixed.below(len(ring) + 1), then=True)
                self.assertEqual(read_sighting(sighting_text(sighting)), sighting)


if __name__ == "__main__":
    unittest.main()
