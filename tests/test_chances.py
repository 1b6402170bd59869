"""[9] and, for its functions, [1] (d), [2] and [3]."""

import functools
import itertools
import unittest
from fractions import Fraction

from stayswap.chances import leaving_chances, mean_nights, meeting_chance, sure_meetings
from stayswap.errors import NoGuest
from tests.helper import (AWAY, CHAIN, DOZEN, FAR, LOTS, MIXED, NEVER, TRIO, TOGETHER,
                          Case, as_lists, forms, ratio, search, small_stays, stays_forms, together)

PER_GUEST = [leaving_chances, mean_nights]
GREAT = [NEVER, CHAIN, DOZEN, MIXED]


def day_counts(stays, guest):
    """For each day that the guest can have, in how many stays of the lot; by sets of days."""
    days = [stay[1] for stay in stays]
    others = [stay[0] for at, stay in enumerate(stays) if at != guest]

    @functools.lru_cache(None)
    def many(at, taken):
        if at == len(others):
            return 1
        return sum(many(at + 1, taken | 1 << k) for k, day in enumerate(days)
                   if day >= others[at] and not taken >> k & 1)

    return {day: many(0, 1 << k) for k, day in enumerate(days)
            if day >= stays[guest][0] and many(0, 1 << k)}


class ByAllStaysTest(Case):

    def check(self, stays):
        found = list(search(stays))
        guests = range(len(stays))
        sure = []
        for guest in guests:
            days = [other[guest][1] for other in found]
            chances = [(day, ratio(days.count(day), len(days))) for day in sorted(set(days))]
            self.same(leaving_chances(stays, guest), chances)
            nights = sum(day - stays[guest][0] for day in days)
            self.same(mean_nights(stays, guest), ratio(nights, len(days)))
        for one, other in itertools.permutations(guests, 2):
            met = sum(together(reached, one, other) for reached in found)
            self.same(meeting_chance(stays, one, other), ratio(met, len(found)))
            if met == len(found) and one < other:
                sure.append((one, other))
        self.same(sure_meetings(stays), sure)

    def test_small_lots(self):
        for stays in LOTS + [CHAIN, NEVER]:
            self.check(stays)

    def test_from_all_stays_of_a_lot(self):
        for stays in LOTS[3:13]:
            for other in search(stays):
                self.check(other)

    def test_all_small_stays(self):
        for stays in small_stays(3, 4):
            self.check(stays)


class LeavingChancesTest(Case):

    def test_example(self):
        self.answers(leaving_chances, TRIO, 0, wanted=[(3, (1, 2)), (5, (1, 4)), (6, (1, 4))])

    def test_one_guest(self):
        self.answers(leaving_chances, ((3, 3),), 0, wanted=[(3, (1, 1))])
        self.answers(leaving_chances, ((0, FAR),), 0, wanted=[(FAR, (1, 1))])

    def test_lowest_terms(self):
        for guest in range(4):
            wanted = [(day, (1, 4)) for day in (4, 5, 7, 9)]
            self.answers(leaving_chances, TOGETHER, guest, wanted=wanted)

    def test_add_up_to_one(self):
        for stays in LOTS + GREAT:
            for guest in range(len(stays)):
                chances = leaving_chances(stays, guest)
                self.assertEqual(sum(Fraction(*chance) for _, chance in chances), 1)
                self.assertEqual(chances, sorted(chances))

    def test_great_lots(self):
        for guest in range(12):
            self.answers(leaving_chances, DOZEN, guest,
                         wanted=[(day, (1, 12)) for day in range(20, 32)])
            self.answers(leaving_chances, NEVER, guest, wanted=[(10 * guest + 5, (1, 1))])
            counts = day_counts(MIXED, guest)
            many = sum(counts.values())
            self.answers(leaving_chances, MIXED, guest,
                         wanted=[(day, ratio(counts[day], many)) for day in sorted(counts)])

    def test_along_a_chain(self):
        wanted = [(2 * k + 3, (1, 2 ** (k + 1))) for k in range(11)] + [(25, (1, 2 ** 11))]
        self.answers(leaving_chances, CHAIN, 0, wanted=wanted)
        self.answers(leaving_chances, CHAIN, 11, wanted=[(23, (1, 2)), (25, (1, 2))])

    def test_own_list(self):
        self.own_list(leaving_chances, TRIO, 0)
        self.own_list(leaving_chances, as_lists(TRIO), 2)


class MeanNightsTest(Case):

    def test_example(self):
        self.answers(mean_nights, TRIO, 0, wanted=(13, 4))

    def test_one_guest(self):
        self.answers(mean_nights, ((3, 3),), 0, wanted=(0, 1))
        self.answers(mean_nights, ((0, FAR),), 0, wanted=(FAR, 1))

    def test_great_lots(self):
        for guest in range(12):
            self.answers(mean_nights, DOZEN, guest, wanted=ratio(51 - 2 * guest, 2))
            self.answers(mean_nights, NEVER, guest, wanted=(5, 1))
            counts = day_counts(MIXED, guest)
            total = sum((day - MIXED[guest][0]) * many for day, many in counts.items())
            self.answers(mean_nights, MIXED, guest, wanted=ratio(total, sum(counts.values())))

    def test_all_together_are_as_many_as_the_nights(self):
        for stays in LOTS + GREAT:
            got = sum(Fraction(*mean_nights(stays, guest)) for guest in range(len(stays)))
            self.assertEqual(got, sum(leaving - arrival for arrival, leaving in stays))


class MeetingTest(Case):

    def test_examples(self):
        self.same([meeting_chance(TRIO, 0, 2), meeting_chance(TRIO, 1, 0)], [(1, 2), (1, 1)])
        self.same([sure_meetings(TRIO), sure_meetings(AWAY)], [[(0, 1)], []])

    def test_few_guests(self):
        for stays in [(), [], ((3, 3),), [[0, FAR]]]:
            self.answers(sure_meetings, stays, wanted=[])

    def test_either_order(self):
        for one, other in itertools.permutations(range(3), 2):
            self.same(meeting_chance(TRIO, one, other), meeting_chance(TRIO, other, one))
        self.answers(meeting_chance, AWAY, 0, 1, wanted=(0, 1))
        self.answers(meeting_chance, AWAY, 1, 0, wanted=(0, 1))

    def test_equal_arrivals(self):
        for one, other in itertools.permutations(range(4), 2):
            self.answers(meeting_chance, TOGETHER, one, other, wanted=(1, 1))
        self.answers(meeting_chance, ((3, 3), (3, 4)), 0, 1, wanted=(1, 1))
        self.answers(meeting_chance, ((3, 4), (3, 3)), 0, 1, wanted=(1, 1))
        self.answers(sure_meetings, TOGETHER, wanted=list(itertools.combinations(range(4), 2)))

    def test_the_last_day_of_one_is_the_first_of_the_other(self):
        self.answers(meeting_chance, ((1, 4), (4, 6)), 0, 1, wanted=(1, 1))
        self.answers(meeting_chance, ((1, 3), (4, 6)), 1, 0, wanted=(0, 1))
        self.answers(sure_meetings, ((1, 4), (4, 6)), wanted=[(0, 1)])

    def test_great_lots(self):
        pairs = list(itertools.combinations(range(12), 2))
        for one, other in pairs:
            self.same(meeting_chance(DOZEN, other, one), (1, 1))
            self.same(meeting_chance(NEVER, one, other), (0, 1))
            # On each arrival but the first, one of the two who are there leaves next.
            self.same(meeting_chance(CHAIN, one, other), (1, 2 ** (other - max(one, 1))))
        self.answers(sure_meetings, DOZEN, wanted=pairs)
        self.answers(sure_meetings, NEVER, wanted=[])
        self.answers(sure_meetings, CHAIN, wanted=[(0, 1)])
        sure = []
        for one, other in pairs:
            first, second = sorted([one, other], key=lambda guest: MIXED[guest][0])
            counts = day_counts(MIXED, first)
            met = sum(many for day, many in counts.items() if day >= MIXED[second][0])
            self.answers(meeting_chance, MIXED, one, other, wanted=ratio(met, sum(counts.values())))
            if met == sum(counts.values()):
                sure.append((one, other))
        self.answers(sure_meetings, MIXED, wanted=sure)
        self.assertTrue(0 < len(sure) < len(pairs))

    def test_own_list(self):
        self.own_list(sure_meetings, TRIO)
        self.own_list(sure_meetings, AWAY)
        self.own_list(sure_meetings, as_lists(DOZEN))


class ArgumentsTest(Case):

    def test_no_guest(self):
        for stays in stays_forms(TRIO):
            for wrong in [-1, -3, 3, 4, FAR, -FAR, 10 ** 4000]:
                for call in PER_GUEST:
                    self.refuses(NoGuest, {"guest": wrong}, call, stays, wrong)
                self.refuses(NoGuest, {"guest": wrong}, meeting_chance, stays, wrong, 0)
                self.refuses(NoGuest, {"guest": wrong}, meeting_chance, stays, 0, wrong)
                self.refuses(NoGuest, {"guest": wrong}, meeting_chance, stays, wrong, wrong)
        for call in PER_GUEST:
            self.refuses(NoGuest, {"guest": 0}, call, (), 0)
            self.refuses(NoGuest, {"guest": 12}, call, guest=12, stays=DOZEN)
            with self.assertRaises(LookupError):
                call(TRIO, 3)

    def test_one_before_other(self):
        self.refuses(NoGuest, {"guest": -1}, meeting_chance, TRIO, -1, 3)
        self.refuses(NoGuest, {"guest": 3}, meeting_chance, TRIO, 3, -1)
        self.refuses(NoGuest, {"guest": 7}, meeting_chance, other=8, one=7, stays=TRIO)
        self.refuses(NoGuest, {"guest": 0}, meeting_chance, (), 0, 1)
        with self.assertRaises(LookupError):
            meeting_chance(TRIO, 0, 3)

    def test_lists(self):
        for form in forms(TRIO):
            self.answers(leaving_chances, form, 0,
                         wanted=[(3, (1, 2)), (5, (1, 4)), (6, (1, 4))])
            self.answers(mean_nights, form, 0, wanted=(13, 4))
            self.answers(meeting_chance, form, 2, 0, wanted=(1, 2))
            self.answers(sure_meetings, form, wanted=[(0, 1)])

    def test_by_name(self):
        self.answers(leaving_chances, guest=2, stays=TRIO, wanted=[(5, (1, 2)), (6, (1, 2))])
        self.answers(mean_nights, guest=2, stays=as_lists(TRIO), wanted=(3, 2))
        self.answers(meeting_chance, other=2, one=0, stays=TRIO, wanted=(1, 2))
        self.answers(sure_meetings, stays=TRIO, wanted=[(0, 1)])


if __name__ == "__main__":
    unittest.main()
