"""[6] and, for its functions, [1] (a), [2] and [3]."""

import unittest

from stayswap.errors import Barred, OtherGuests
from stayswap.exchanging import run
from stayswap.leading import bar, distance, is_way, leads, nearer, rings, shortest
from stayswap.stays import is_stays
from tests.helper import (AWAY, CHAIN, DISTANT, DOZEN, FAR, LOTS, MIXED, NEVER, OTHER_VALUES, TRIO,
                          TOGETHER, Case, as_lists, forms, neighbours, search, small_stays,
                          stays_forms, swapped)

GOAL = ((1, 6), (2, 3), (4, 5))
# DOZEN with all leaving days moved on by one guest, and exchanged two by two.
MOVED = tuple((guest, 20 + (guest + 1) % 12) for guest in range(12))
IN_PAIRS = tuple((guest, 20 + (guest ^ 1)) for guest in range(12))

WITH_TWO = [leads, bar, rings, distance, nearer, shortest]
BARRED = [rings, distance, nearer, shortest]


def cycles(one, other):
    """The rings, found from the permutation of the guests."""
    left = set(range(len(one)))
    found = []
    while left:
        ring = [min(left)]
        while other[ring[-1]][1] != one[ring[0]][1]:
            ring.append([stay[1] for stay in one].index(other[ring[-1]][1]))
        left -= set(ring)
        if len(ring) > 1:
            found.append(tuple(ring))
    return found


class LotsTest(Case):

    def test_the_stays_of_these_tests_are_stays(self):
        for stays in LOTS + [NEVER, CHAIN, DOZEN, MIXED, MOVED, IN_PAIRS]:
            self.assertTrue(is_stays(stays))


class LeadsTest(Case):

    def check(self, one, other, reason):
        self.answers(bar, one, other, wanted=reason)
        self.answers(leads, one, other, wanted=reason is None)

    def test_examples(self):
        self.same([leads(TRIO, GOAL), bar(TRIO, ((1, 6), (1, 3), (4, 5))),
                   bar(TRIO, ((1, 3), (2, 5), (4, 7)))], [True, 1, "days"])

    def test_few_guests(self):
        self.check((), (), None)
        self.check(((3, 3),), ((3, 3),), None)
        self.check(((3, 3),), ((2, 3),), 0)
        self.check(((3, 3),), ((3, 4),), "days")

    def test_stays_after_exchanges(self):
        for one in LOTS[:10]:
            for other in search(one):
                self.check(one, other, None)
                self.check(other, one, None)

    def test_exactly_the_lot(self):
        # [6]: they lead to each other exactly if arrivals and leaving days are the same.
        every = list(small_stays(3, 2))
        for one in every:
            lot = search(one)
            for other in every:
                if len(one) == len(other):
                    self.same(leads(one, other), other in lot)
                    self.same(bar(one, other) is None, other in lot)

    def test_one_arrival_changed(self):
        for guest in range(12):
            other = list(CHAIN)
            other[guest] = (CHAIN[guest][0] + 1, CHAIN[guest][1])
            self.check(CHAIN, tuple(other), guest)
            self.check(tuple(other), CHAIN, guest)

    def test_two_arrivals_changed(self):
        self.check(TRIO, ((1, 3), (1, 5), (3, 6)), 1)
        self.check(TRIO, ((0, 3), (2, 5), (3, 6)), 0)

    def test_one_leaving_day_changed(self):
        for guest in range(12):
            other = list(NEVER)
            other[guest] = (NEVER[guest][0], NEVER[guest][1] + 1)
            self.check(NEVER, tuple(other), "days")
            self.check(tuple(other), NEVER, "days")

    def test_arrival_ahead_of_days(self):
        self.check(TRIO, ((1, 3), (2, 5), (5, 7)), 2)
        self.check(TRIO, ((1, 9), (2, 5), (5, 7)), 2)

    def test_guests_in_another_order(self):
        self.check(TRIO, (TRIO[1], TRIO[0], TRIO[2]), 0)
        self.check(TRIO, (TRIO[0], TRIO[2], TRIO[1]), 1)
        self.check(TOGETHER, TOGETHER[::-1], None)

    def test_great_days(self):
        self.check(DISTANT, swapped(DISTANT, 0, 4), None)
        self.check(((FAR, FAR),), ((FAR - 1, FAR),), 0)
        self.check(((FAR, FAR),), ((FAR, FAR + 1),), "days")
        self.check(MIXED, swapped(swapped(MIXED, 0, 2), 1, 11), None)

    def test_lists(self):
        wrong = ((1, 3), (2, 5), (4, 7))
        for one in forms(TRIO):
            for other in forms(GOAL):
                self.check(one, other, None)
            for other in stays_forms(wrong):
                self.check(one, other, "days")
        for one in stays_forms(TOGETHER):
            for other in stays_forms(((4, 9), (3, 5), (4, 4), (4, 7))):
                self.check(one, other, 1)

    def test_by_name(self):
        self.answers(leads, one=TRIO, other=as_lists(GOAL), wanted=True)
        self.answers(leads, other=AWAY, one=((1, 5), (5, 7)), wanted=False)
        self.answers(bar, other=((1, 3), (1, 5), (4, 7)), one=TRIO, wanted=1)
        self.answers(bar, one=TRIO, other=GOAL, wanted=None)


class OtherGuestsTest(Case):

    def test_more_and_fewer(self):
        for call in WITH_TWO:
            for one in [AWAY, TRIO, DOZEN]:
                for other in [(), ((3, 3),), ((1, 9), (2, 7), (4, 6), (3, 5)), DOZEN[:11]]:
                    for first in stays_forms(one):
                        for second in stays_forms(other):
                            self.refuses(OtherGuests, {"many": len(other)}, call, first, second)

    def test_ahead_of_barred(self):
        for call in WITH_TWO:
            self.refuses(OtherGuests, {"many": 1}, call, (), ((3, 3),))
            self.refuses(OtherGuests, {"many": 2}, call, TRIO, ((0, 3), (2, 9)))
            self.refuses(OtherGuests, {"many": 4}, call, TRIO, ((0, 3), (2, 5), (4, 6), (4, 9)))
            self.refuses(OtherGuests, {"many": 2}, call, other=AWAY, one=TRIO)
            with self.assertRaises(ValueError):
                call(TRIO, AWAY)

    def test_is_way_whatever_value_is(self):
        for value in OTHER_VALUES + [[], [(0, 1)], [(5, 5)]]:
            self.refuses(OtherGuests, {"many": 2}, is_way, TRIO, AWAY, value)
            self.refuses(OtherGuests, {"many": 3}, is_way, (), as_lists(TRIO), value)
        self.refuses(OtherGuests, {"many": 2}, is_way, value=None, other=AWAY, one=TRIO)


class BarredTest(Case):

    def test_reason(self):
        for call in BARRED:
            self.refuses(Barred, {"reason": 1}, call, TRIO, ((1, 6), (1, 3), (4, 5)))
            self.refuses(Barred, {"reason": 0}, call, TRIO, ((0, 6), (1, 3), (4, 9)))
            self.refuses(Barred, {"reason": "days"}, call, TRIO, ((1, 3), (2, 5), (4, 7)))
            self.refuses(Barred, {"reason": "days"}, call, DISTANT, ((FAR, FAR + 5),) + DISTANT[1:])
            self.refuses(Barred, {"reason": "days"}, call, other=((3, 4),), one=((3, 3),))
            for one in forms(AWAY):
                for other in forms(((1, 2), (4, 7))):
                    self.refuses(Barred, {"reason": 1}, call, one, other)

    def test_it_is_a_runtime_error(self):
        for call in BARRED:
            with self.assertRaises(RuntimeError):
                call(TRIO, ((1, 3), (2, 5), (4, 7)))


class RingsTest(Case):

    def check(self, one, other):
        found = cycles(one, other)
        self.answers(rings, one, other, wanted=found)
        self.answers(distance, one, other, wanted=sum(len(ring) - 1 for ring in found))

    def test_examples(self):
        self.same([rings(TRIO, GOAL), distance(TRIO, GOAL), distance(TRIO, TRIO)],
                  [[(0, 2, 1)], 2, 0])

    def test_the_stays_themselves(self):
        for stays in LOTS + [NEVER, CHAIN, DOZEN, MIXED]:
            self.answers(rings, stays, stays, wanted=[])
            self.answers(distance, stays, stays, wanted=0)

    def test_the_other_way_round(self):
        self.answers(rings, GOAL, TRIO, wanted=[(0, 1, 2)])

    def test_several_rings(self):
        one = DOZEN[:7]
        days = [21, 20, 26, 24, 25, 23, 22]
        other = tuple((guest, day) for guest, day in enumerate(days))
        self.answers(rings, one, other, wanted=[(0, 1), (2, 6), (3, 4, 5)])
        self.answers(rings, other, one, wanted=[(0, 1), (2, 6), (3, 5, 4)])
        self.answers(distance, one, other, wanted=4)

    def test_twelve_guests(self):
        self.answers(rings, DOZEN, MOVED, wanted=[tuple(range(12))])
        self.answers(rings, MOVED, DOZEN, wanted=[(0,) + tuple(range(11, 0, -1))])
        self.answers(distance, DOZEN, MOVED, wanted=11)
        self.answers(distance, DOZEN, IN_PAIRS, wanted=6)
        self.answers(distance, DOZEN, swapped(DOZEN, 3, 8), wanted=1)
        self.answers(distance, MOVED, IN_PAIRS, wanted=5)

    def test_small_lots_by_search(self):
        for one in LOTS:
            for other, far in search(one).items():
                self.check(one, other)
                self.assertEqual(distance(one, other), far)

    def test_all_small_stays_by_search(self):
        for one in small_stays(3, 4):
            for other, far in search(one).items():
                self.check(one, other)
                self.assertEqual(distance(one, other), far)

    def test_lists(self):
        for one in forms(TRIO):
            for other in forms(GOAL):
                self.answers(rings, one, other, wanted=[(0, 2, 1)])
                self.answers(distance, one, other, wanted=2)

    def test_by_name(self):
        self.answers(rings, one=TRIO, other=GOAL, wanted=[(0, 2, 1)])
        self.answers(rings, other=as_lists(TRIO), one=GOAL, wanted=[(0, 1, 2)])
        self.answers(distance, other=GOAL, one=as_lists(TRIO), wanted=2)

    def test_own_list(self):
        self.own_list(rings, TRIO, GOAL)
        self.own_list(rings, TRIO, TRIO)
        self.own_list(rings, as_lists(TRIO), as_lists(GOAL))


class NearerTest(Case):

    def check(self, one, other, far):
        pair = nearer(one, other)
        if far == 0:
            self.assertIs(pair, None)
        else:
            self.assertIs(pair.__class__, tuple)
            self.assertIn(pair, neighbours(one))
            self.assertEqual(sum(len(ring) - 1 for ring in cycles(swapped(one, *pair), other)),
                             far - 1)
        for first in stays_forms(one):
            for second in stays_forms(other):
                self.answers(nearer, first, second, wanted=pair)
        self.answers(nearer, other=other, one=one, wanted=pair)

    def test_examples(self):
        self.same(nearer(TRIO, ((1, 5), (2, 3), (4, 6))), (0, 1))

    def test_the_only_pair(self):
        self.answers(nearer, TRIO, ((1, 3), (2, 6), (4, 5)), wanted=(1, 2))
        # Guests 0 and 2 are in the ring, too, but do not meet.
        self.answers(nearer, ((1, 3), (4, 6), (2, 5)), ((1, 6), (4, 5), (2, 3)), wanted=(0, 2))

    def test_small_lots_by_search(self):
        for one in LOTS:
            for other, far in search(one).items():
                self.check(one, other, far)

    def test_all_small_stays_by_search(self):
        for one in small_stays(3, 3):
            for other, far in search(one).items():
                self.check(one, other, far)

    def test_twelve_guests(self):
        self.check(DOZEN, MOVED, 11)
        self.check(MOVED, DOZEN, 11)
        self.check(DOZEN, IN_PAIRS, 6)
        for stays in [NEVER, CHAIN, DOZEN, MIXED]:
            self.check(stays, stays, 0)


class ShortestTest(Case):

    def check(self, one, other, far):
        pairs = shortest(one, other)
        self.assertIs(pairs.__class__, list)
        self.assertEqual(len(pairs), far)
        present = one
        for pair in pairs:
            self.assertIs(pair.__class__, tuple)
            found = {frozenset(known): reached for known, reached in neighbours(present).items()}
            self.assertEqual(len(pair), 2)
            present = found[frozenset(pair)]
        self.assertEqual(present, other)
        self.same(run(one, pairs), other)
        self.answers(is_way, one, other, pairs, wanted=True)
        for first in stays_forms(one):
            for second in stays_forms(other):
                self.answers(shortest, first, second, wanted=pairs)
        self.answers(shortest, other=other, one=one, wanted=pairs)

    def test_example(self):
        self.same(len(shortest(TRIO, GOAL)), 2)

    def test_the_stays_themselves(self):
        for stays in LOTS + [NEVER, CHAIN, DOZEN, MIXED]:
            self.answers(shortest, stays, stays, wanted=[])

    def test_small_lots_by_search(self):
        for one in LOTS:
            for other, far in search(one).items():
                self.check(one, other, far)

    def test_all_small_stays_by_search(self):
        for one in small_stays(3, 3):
            for other, far in search(one).items():
                self.check(one, other, far)

    def test_twelve_guests(self):
        self.check(DOZEN, MOVED, 11)
        self.check(MOVED, IN_PAIRS, 5)

    def test_along_a_chain(self):
        # Guest 0 leaves last; everyone else takes the leaving day of the one before.
        other = ((0, 25),) + tuple((2 * guest, 2 * guest + 1) for guest in range(1, 12))
        self.check(CHAIN, other, 11)
        self.check(other, CHAIN, 11)

    def test_own_list(self):
        self.own_list(shortest, TRIO, GOAL)
        self.own_list(shortest, TRIO, TRIO)
        self.own_list(shortest, as_lists(TRIO), GOAL)


class IsWayTest(Case):

    def yes(self, one, other, value):
        self.answers(is_way, one, other, value, wanted=True)

    def no(self, one, other, value):
        self.answers(is_way, one, other, value, wanted=False)

    def test_example(self):
        self.same(is_way(TRIO, TRIO, [(0, 1), (1, 0)]), True)

    def test_ways(self):
        self.yes(TRIO, GOAL, [(0, 1), (0, 2)])
        self.yes(TRIO, GOAL, [(1, 0), (2, 0)])
        self.yes(TRIO, GOAL, [(1, 2), (0, 1)])
        self.no(TRIO, GOAL, [(0, 1), (1, 2)])
        self.no(TRIO, GOAL, [(0, 1)])
        self.no(TRIO, GOAL, [(0, 1), (0, 2), (0, 1)])

    def test_detours(self):
        self.yes(TRIO, GOAL, [(1, 2), (2, 1), (0, 1), (1, 0), (0, 1), (0, 2)])
        self.yes(TRIO, GOAL, [(0, 1), (1, 0)] * 50 + [(0, 1), (0, 2)])
        self.no(TRIO, GOAL, [(0, 1), (1, 0)] * 50)
        self.yes(DOZEN, DOZEN, [(3, 4)] * 5000)
        self.no(DOZEN, DOZEN, [(3, 4)] * 5001)

    def test_all_pairs_of_exchanges(self):
        every = [(one, other) for one in range(-1, 4) for other in range(-1, 4)]
        for first in every:
            for second in every:
                present = TRIO
                for pair in (first, second):
                    known = neighbours(present) if present else {}
                    present = known.get(tuple(sorted(pair)))
                for other in search(TRIO):
                    self.same(is_way(TRIO, other, [first, second]), present == other)

    def test_the_empty_list(self):
        self.yes((), (), [])
        self.yes(TRIO, TRIO, [])
        self.no(TRIO, GOAL, [])
        self.no(TRIO, ((1, 3), (2, 5), (4, 7)), [])

    def test_barred_is_no_error(self):
        self.no(TRIO, ((1, 6), (1, 3), (4, 5)), [(0, 1), (0, 2)])
        self.no(TRIO, ((1, 5), (2, 3), (4, 7)), [(0, 1)])

    def test_who_may_not_exchange(self):
        self.no(TRIO, TRIO, [(1, 1)])
        self.no(TRIO, TRIO, [(0, 2)])
        self.no(TRIO, TRIO, [(0, 2), (2, 0)])
        self.no(TRIO, GOAL, [(0, 1), (0, 2), (1, 2), (1, 2)])
        self.no(AWAY, AWAY, [(0, 1), (1, 0)])
        # They met before the exchange, and do not meet behind it.
        self.no(TRIO, TRIO, [(0, 1), (1, 2), (1, 2), (0, 1)])

    def test_no_guests(self):
        for wrong in [-1, -2, -3, 3, 4, FAR, -FAR, 10 ** 4000]:
            for pair in [(wrong, 1), (1, wrong), (wrong, wrong)]:
                self.no(TRIO, TRIO, [pair, pair])
                self.no(TRIO, swapped(TRIO, 0, 1), [(0, 1), pair])
        self.no((), (), [(0, 0)])
        self.no((), (), [(0, 1)])

    def test_true_and_false_are_no_integers(self):
        one_away = swapped(TRIO, 0, 1)
        self.yes(TRIO, one_away, [(0, 1)])
        for pair in [(0, True), (False, 1), (False, True), (True, False), (1, False), (True, 0)]:
            self.no(TRIO, one_away, [pair])
            self.no(TRIO, TRIO, [(0, 1), pair])

    def test_lists_and_tuples(self):
        for form in forms([(0, 1), (0, 2)]):
            self.same(is_way(TRIO, GOAL, form), form == [(0, 1), (0, 2)])
        self.no(TRIO, TRIO, ())
        self.no(TRIO, swapped(TRIO, 0, 1), ((0, 1),))
        for one in forms(TRIO):
            for other in forms(GOAL):
                self.yes(one, other, [(0, 1), (0, 2)])
                self.no(one, other, [[0, 1], (0, 2)])
        for other in forms(TRIO):
            self.yes(TRIO, other, [])

    def test_other_values(self):
        for value in OTHER_VALUES:
            with self.subTest(value=value):
                self.no(TRIO, TRIO, value)
                self.no((), (), value)
                self.no(TRIO, ((1, 3), (2, 5), (4, 7)), value)

    def test_a_wrong_item_behind(self):
        for value in OTHER_VALUES:
            if isinstance(value, list):
                self.no(TRIO, TRIO, [(0, 1), (0, 1)] + value)
        self.no(TRIO, TRIO, [(0, 1), (0, 1), (0, 1, 2)])
        # An exchange that fails stands ahead of the wrong item.
        self.no(TRIO, TRIO, [(0, 2), None])

    def test_great_values(self):
        self.no(TRIO, TRIO, [(0, 1)] * 3000 + [None])
        self.no(TRIO, TRIO, [[(0, 1)] * 3000])
        self.no(TRIO, TRIO, "01" * 3000)
        self.no(TRIO, TRIO, [tuple(range(3000))])

    def test_by_name(self):
        self.answers(is_way, one=TRIO, other=GOAL, value=[(0, 1), (0, 2)], wanted=True)
        self.answers(is_way, value=[(0, 1)], other=GOAL, one=TRIO, wanted=False)
        self.answers(is_way, value=None, other=as_lists(GOAL), one=TRIO, wanted=False)

    def test_all_small_stays_by_search(self):
        for one in small_stays(3, 2):
            for pair, reached in neighbours(one).items():
                for other in search(one):
                    self.same(is_way(one, other, [pair]), other == reached)
                    self.same(is_way(one, other, [pair[::-1]]), other == reached)


if __name__ == "__main__":
    unittest.main()
