"""[12] and, for its functions, [1] (a) and (c), [2], [3] and [6]."""

import itertools
import math
import unittest
from unittest import mock

from stayswap import most
from stayswap.counting import lot_many, stays_at
from stayswap.errors import Barred, OtherGuests, TooMany
from stayswap.leading import distance
from stayswap.small import all_stays, ways_many
from tests.helper import (AWAY, CHAIN, DISTANT, DOZEN, FAR, LATE_288, LOT_288, LOT_324, LOTS, MIXED,
                          NEVER, SOON_288, TRIO, TOGETHER, Case, as_lists, forms, mixed, neighbours,
                          search, small_stays, stays_forms)

BACK = ((1, 6), (2, 3), (4, 5))
MEETING = [(1, 1), (2, 1), (3, 3), (4, 16), (5, 125)]


def all_ways(stays):
    """For all stays of the lot, how many shortest ways lead to them; exchange by exchange."""
    found = search(stays)
    ways = {stays: 1}
    for present in sorted(found, key=found.get):
        for reached in neighbours(present).values():
            if found[reached] == found[present] + 1:
                ways[reached] = ways.get(reached, 0) + ways[present]
    return ways


class AllStaysTest(Case):

    def test_example(self):
        self.same([len(all_stays(TRIO)), all_stays(TRIO)[1], ways_many(TRIO, BACK),
                   ways_many(TRIO, TRIO)], [4, ((1, 3), (2, 6), (4, 5)), 2, 1])
        self.answers(all_stays, TRIO, wanted=[TRIO, ((1, 3), (2, 6), (4, 5)),
                                              ((1, 5), (2, 3), (4, 6)), BACK])

    def test_few_guests(self):
        for stays in [(), ((3, 3),), ((0, FAR),), AWAY, NEVER]:
            for form in stays_forms(stays):
                self.answers(all_stays, form, wanted=[stays])

    def test_equal_arrivals(self):
        self.answers(all_stays, TOGETHER, wanted=[
            tuple((4, day) for day in days) for days in itertools.permutations([4, 5, 7, 9])])

    def test_small_lots_by_search(self):
        for stays in LOTS + [LOT_288, LATE_288, SOON_288, CHAIN[:9]]:
            wanted = sorted(search(stays))
            for form in stays_forms(stays):
                self.answers(all_stays, form, wanted=wanted)

    def test_from_all_stays_of_a_lot(self):
        for stays in LOTS:
            wanted = sorted(search(stays))
            for other in wanted:
                self.same(all_stays(other), wanted)

    def test_all_small_stays_by_search(self):
        for stays in small_stays(3, 4):
            self.same(all_stays(stays), sorted(search(stays)))

    def test_as_they_are_numbered(self):
        for stays in LOTS + [LOT_288, DISTANT]:
            self.same(all_stays(stays), [stays_at(stays, k) for k in range(lot_many(stays))])

    def test_too_many(self):
        for stays, many in [(LOT_324, 324), (CHAIN, 2048), (DOZEN, math.factorial(12)),
                            (MIXED, lot_many(MIXED)), (DOZEN[:6], 720)]:
            for form in stays_forms(stays):
                self.refuses(TooMany, {"many": many}, all_stays, form)
            self.refuses(TooMany, {"many": many}, all_stays, stays=stays)
        self.assertEqual(len(all_stays(LOT_288)), 288)
        self.assertEqual(len(all_stays(DOZEN[:5])), 120)
        with self.assertRaises(OverflowError):
            all_stays(LOT_324)

    def test_most_itself_is_not_too_many(self):
        self.same(most.MOST, 300)
        with mock.patch("stayswap.small.MOST", 4):
            self.assertEqual(len(all_stays(TRIO)), 4)
            self.same(ways_many(TRIO, BACK), 2)
        with mock.patch("stayswap.small.MOST", 3):
            self.refuses(TooMany, {"many": 4}, all_stays, TRIO)
            self.refuses(TooMany, {"many": 4}, ways_many, TRIO, BACK)

    def test_lists_and_names(self):
        wanted = sorted(search(TRIO))
        for form in forms(TRIO):
            self.answers(all_stays, form, wanted=wanted)
            self.answers(all_stays, stays=form, wanted=wanted)

    def test_own_list(self):
        for stays in [(), TRIO, as_lists(TRIO), mixed(TOGETHER)]:
            self.own_list(all_stays, stays)


class WaysTest(Case):

    def test_few_guests(self):
        for stays in [(), ((3, 3),), ((0, FAR),), AWAY, NEVER]:
            for one in stays_forms(stays):
                for other in stays_forms(stays):
                    self.answers(ways_many, one, other, wanted=1)

    def test_one_ring_of_guests_who_all_meet(self):
        # As many as there are trees: the guests to the power of the guests less 2.
        for guests, wanted in MEETING:
            days = [stay[1] for stay in DOZEN[:guests]]
            other = tuple((guest, day) for guest, day in enumerate(days[1:] + days[:1]))
            self.answers(ways_many, DOZEN[:guests], other, wanted=wanted)

    def test_two_rings_in_any_order(self):
        other = ((4, 5), (4, 9), (4, 7), (4, 4))
        self.answers(ways_many, TOGETHER, other, wanted=2)

    def test_small_lots_by_search(self):
        for stays in LOTS + [CHAIN[:7], LATE_288]:
            ways = all_ways(stays)
            for other, wanted in ways.items():
                self.same(ways_many(stays, other), wanted)

    def test_from_all_stays_of_a_lot_by_search(self):
        for stays in [TRIO, TOGETHER, CHAIN[:5], ((0, 1), (1, 5), (1, 2), (5, 7), (2, 8))]:
            for one in search(stays):
                ways = all_ways(one)
                for other, wanted in ways.items():
                    self.same(ways_many(one, other), wanted)

    def test_all_small_stays_by_search(self):
        for stays in small_stays(3, 4):
            for other, wanted in all_ways(stays).items():
                self.same(ways_many(stays, other), wanted)

    def test_twelve_guests(self):
        found = search(LATE_288)
        farthest = max(found, key=found.get)
        self.same(distance(LATE_288, farthest), 5)
        self.answers(ways_many, LATE_288, farthest, wanted=all_ways(LATE_288)[farthest])

    def test_forms_and_names(self):
        for one in forms(TRIO):
            for other in stays_forms(BACK):
                self.answers(ways_many, one, other, wanted=2)
                self.answers(ways_many, other, one, wanted=2)
        for other in forms(BACK):
            self.answers(ways_many, other=other, one=TRIO, wanted=2)

    def test_other_guests_first(self):
        for one in [(), TRIO, DOZEN, LOT_324]:
            for other in [(), ((3, 3),), AWAY, TRIO, DOZEN, DOZEN + ((50, 50),), MIXED[:4]]:
                if len(one) != len(other):
                    for form in stays_forms(other):
                        self.refuses(OtherGuests, {"many": len(other)}, ways_many, one, form)
        self.refuses(OtherGuests, {"many": 11}, ways_many, other=DOZEN[1:], one=DOZEN)
        with self.assertRaises(ValueError):
            ways_many(TRIO, AWAY)

    def test_barred_before_too_many(self):
        self.refuses(Barred, {"reason": 1}, ways_many, TRIO, ((1, 6), (1, 3), (4, 5)))
        self.refuses(Barred, {"reason": "days"}, ways_many, TRIO, ((1, 3), (2, 5), (4, 7)))
        self.refuses(Barred, {"reason": 11}, ways_many, DOZEN, DOZEN[:11] + ((0, 31),))
        self.refuses(Barred, {"reason": "days"}, ways_many, DOZEN, DOZEN[:11] + ((11, 32),))
        self.refuses(Barred, {"reason": 0}, ways_many, DOZEN, MIXED)
        self.refuses(Barred, {"reason": "days"}, ways_many, as_lists(LOT_324),
                     as_lists(LOT_324[:6] + ((70, 87),)))
        with self.assertRaises(RuntimeError):
            ways_many(DOZEN, MIXED)

    def test_too_many(self):
        self.refuses(TooMany, {"many": 324}, ways_many, LOT_324, LOT_324)
        self.refuses(TooMany, {"many": math.factorial(12)}, ways_many, as_lists(DOZEN), DOZEN)
        self.refuses(TooMany, {"many": 2048}, ways_many, other=CHAIN, one=CHAIN)
        self.refuses(TooMany, {"many": 720}, ways_many, DOZEN[:6], DOZEN[:6])
        self.answers(ways_many, LOT_288, LOT_288, wanted=1)
        with self.assertRaises(OverflowError):
            ways_many(LOT_324, LOT_324)


if __name__ == "__main__":
    unittest.main()
