"""[11] and, for its functions, [1] (e), [2] and [3]."""

import itertools
import math
import unittest

from stayswap.counting import lot_many, options
from stayswap.errors import NoGuest
from stayswap.lengths import (crossing_counts, crossings, first_out, last_out, longest_range,
                              meetings, shortest_range, square_range, squares)
from tests.helper import (AWAY, CHAIN, DISTANT, DOZEN, FAR, LATE_288, LOT_288, LOTS, MIXED, NEVER,
                          TRIO, TOGETHER, Case, as_lists, forms, search, small_stays, stays_forms,
                          together)

GREAT = [NEVER, CHAIN, DOZEN, MIXED]
BACK = ((1, 6), (2, 3), (4, 5))
RANGES = [square_range, longest_range, shortest_range]
ALL = [first_out, last_out, squares, *RANGES, crossings, meetings, crossing_counts]
REVERSED = tuple((guest, 31 - guest) for guest in range(12))


def arrival_order(stays):
    return sorted(range(len(stays)), key=lambda guest: (stays[guest][0], guest))


def lengths(stays):
    return [leaving - arrival for arrival, leaving in stays]


def dealt_first(stays):
    """[11] in its own words: the guests leave in the order of arrival."""
    found = list(stays)
    for guest, day in zip(arrival_order(stays), sorted(leaving for _, leaving in stays)):
        found[guest] = (stays[guest][0], day)
    return tuple(found)


def dealt_last(stays):
    """[11] in its own words: from the last one, each takes the least possible day."""
    found = list(stays)
    left = {leaving for _, leaving in stays}
    for guest in arrival_order(stays)[::-1]:
        day = min(day for day in left if day >= stays[guest][0])
        left.remove(day)
        found[guest] = (stays[guest][0], day)
    return tuple(found)


def crossing_pairs(stays):
    """[11] in its own words, pair by pair."""
    order = arrival_order(stays)
    return [(one, other) for one, other in itertools.combinations(order, 2)
            if together(stays, one, other) and stays[one][1] < stays[other][1]]


def meeting_pairs(stays):
    return [pair for pair in itertools.combinations(range(len(stays)), 2)
            if together(stays, *pair)]


class OutTest(Case):

    def test_examples(self):
        self.same([first_out(BACK), last_out(TRIO)], [TRIO, BACK])

    def test_few_guests(self):
        for stays in [(), ((3, 3),), ((0, FAR),), AWAY, NEVER]:
            for form in stays_forms(stays):
                self.answers(first_out, form, wanted=stays)
                self.answers(last_out, form, wanted=stays)

    def test_equal_arrivals(self):
        # With the same arrival, who has the lesser number comes ahead.
        self.answers(first_out, TOGETHER, wanted=((4, 4), (4, 5), (4, 7), (4, 9)))
        self.answers(last_out, TOGETHER, wanted=((4, 9), (4, 7), (4, 5), (4, 4)))
        self.answers(first_out, ((5, 9), (2, 7), (5, 6), (2, 8)),
                     wanted=((5, 8), (2, 6), (5, 9), (2, 7)))
        self.answers(last_out, ((5, 9), (2, 7), (5, 6), (2, 8)),
                     wanted=((5, 7), (2, 9), (5, 6), (2, 8)))

    def test_one_after_another(self):
        self.answers(first_out, CHAIN, wanted=CHAIN)
        # Each day but the last one goes to who comes on the day before it.
        self.answers(last_out, CHAIN, wanted=((0, 25),) + tuple(
            (2 * guest, 2 * guest + 1) for guest in range(1, 12)))

    def test_twelve_guests_together(self):
        for stays in (DOZEN, REVERSED):
            self.answers(first_out, stays, wanted=DOZEN)
            self.answers(last_out, stays, wanted=REVERSED)
        self.answers(first_out, MIXED, wanted=dealt_first(MIXED))
        self.answers(last_out, MIXED, wanted=dealt_last(MIXED))
        self.assertNotEqual(dealt_first(MIXED), dealt_last(MIXED))

    def test_from_all_stays_of_a_lot(self):
        for stays in LOTS + [LOT_288]:
            found = search(stays)
            first, last = dealt_first(stays), dealt_last(stays)
            self.assertIn(first, found)
            self.assertIn(last, found)
            for other in found:
                self.same(first_out(other), first)
                self.same(last_out(other), last)

    def test_all_small_stays(self):
        for stays in small_stays(3, 5):
            self.same(first_out(stays), dealt_first(stays))
            self.same(last_out(stays), dealt_last(stays))

    def test_great_days(self):
        self.answers(first_out, DISTANT, wanted=((FAR, FAR + 2), (5, FAR - 1), (FAR - 1, FAR + 1),
                                                 (5, FAR), (FAR, FAR + 4)))
        self.answers(last_out, DISTANT, wanted=((FAR, FAR + 1), (5, FAR + 4), (FAR - 1, FAR - 1),
                                                (5, FAR + 2), (FAR, FAR)))


class SquaresTest(Case):

    def test_examples(self):
        self.same([squares(TRIO), square_range(TRIO), longest_range(TRIO), shortest_range(TRIO)],
                  [17, (17, 27), (3, 5), (1, 2)])

    def test_no_guests(self):
        for form in ((), []):
            self.answers(squares, form, wanted=0)
            self.answers(square_range, form, wanted=(0, 0))
            self.refuses(NoGuest, {"guest": 0}, longest_range, form)
            self.refuses(NoGuest, {"guest": 0}, shortest_range, form)
            self.refuses(NoGuest, {"guest": 0}, longest_range, stays=form)
            self.refuses(NoGuest, {"guest": 0}, shortest_range, stays=form)
        for call in (longest_range, shortest_range):
            with self.assertRaises(LookupError):
                call(())

    def test_one_guest(self):
        for stays, nights in [(((3, 3),), 0), (((3, 4),), 1), (((0, FAR),), FAR),
                              (((FAR, FAR),), 0)]:
            self.answers(squares, stays, wanted=nights * nights)
            self.answers(square_range, stays, wanted=(nights * nights, nights * nights))
            self.answers(longest_range, stays, wanted=(nights, nights))
            self.answers(shortest_range, stays, wanted=(nights, nights))

    def test_twelve_guests(self):
        self.answers(squares, DOZEN, wanted=12 * 400)
        self.answers(square_range, DOZEN, wanted=(4800, sum((31 - 2 * k) ** 2 for k in range(12))))
        self.answers(longest_range, DOZEN, wanted=(20, 31))
        self.answers(shortest_range, DOZEN, wanted=(9, 20))
        self.answers(square_range, NEVER, wanted=(300, 300))
        self.answers(longest_range, NEVER, wanted=(5, 5))
        self.answers(shortest_range, NEVER, wanted=(5, 5))
        self.answers(square_range, CHAIN, wanted=(12 * 9, 625 + 11))
        self.answers(longest_range, CHAIN, wanted=(3, 25))
        self.answers(shortest_range, CHAIN, wanted=(1, 3))

    def test_great_days(self):
        self.answers(squares, MIXED, wanted=sum(many * many for many in lengths(MIXED)))
        first, last = lengths(dealt_first(MIXED)), lengths(dealt_last(MIXED))
        self.answers(square_range, MIXED, wanted=(sum(many * many for many in first),
                                                  sum(many * many for many in last)))
        self.answers(longest_range, MIXED, wanted=(max(first), max(last)))
        self.answers(shortest_range, MIXED, wanted=(min(last), min(first)))

    def check(self, stays):
        found = [lengths(other) for other in search(stays)]
        sums = [sum(many * many for many in nights) for nights in found]
        self.same(squares(stays), sums[0])
        self.same(square_range(stays), (min(sums), max(sums)))
        if stays:
            longest = [max(nights) for nights in found]
            shortest = [min(nights) for nights in found]
            self.same(longest_range(stays), (min(longest), max(longest)))
            self.same(shortest_range(stays), (min(shortest), max(shortest)))

    def test_against_all_stays_of_small_lots(self):
        for stays in LOTS + [LOT_288, LATE_288, CHAIN]:
            self.check(stays)

    def test_from_all_stays_of_a_lot(self):
        for stays in LOTS[3:13]:
            for other in search(stays):
                self.check(other)

    def test_against_all_stays_of_all_small_stays(self):
        for stays in small_stays(3, 5):
            self.check(stays)


class CrossingTest(Case):

    def test_examples(self):
        self.same([crossings(TRIO), meetings(TRIO), crossing_counts(TRIO), crossings(BACK),
                   crossing_counts(())], [2, 2, [1, 2, 1], 0, [1]])

    def test_few_guests(self):
        for stays in [(), ((3, 3),), ((0, FAR),), AWAY, NEVER]:
            for form in stays_forms(stays):
                self.answers(crossings, form, wanted=0)
                self.answers(meetings, form, wanted=0)
                self.answers(crossing_counts, form, wanted=[1])

    def test_equal_arrivals(self):
        self.answers(crossings, ((4, 5), (4, 6)), wanted=1)
        self.answers(crossings, ((4, 6), (4, 5)), wanted=0)
        self.answers(crossings, ((4, 4), (4, 5)), wanted=1)
        self.answers(crossings, ((4, 5), (4, 4)), wanted=0)
        # 9 5 4 7: only 5 and 4 leave ahead of 7.
        self.answers(crossings, TOGETHER, wanted=2)
        self.answers(meetings, TOGETHER, wanted=6)
        self.answers(crossing_counts, TOGETHER, wanted=[1, 3, 5, 6, 5, 3, 1])

    def test_the_last_day_of_one_is_the_first_of_the_other(self):
        self.answers(crossings, ((1, 4), (4, 6)), wanted=1)
        self.answers(meetings, ((1, 4), (4, 6)), wanted=1)
        self.answers(crossings, ((4, 6), (1, 4)), wanted=1)
        self.answers(crossings, ((4, 4), (1, 6)), wanted=0)
        self.answers(crossings, ((1, 3), (4, 6)), wanted=0)
        self.answers(meetings, ((4, 6), (1, 3)), wanted=0)

    def test_against_the_numbers_of_the_guests(self):
        self.answers(crossings, ((4, 6), (2, 5), (1, 3)), wanted=2)
        self.answers(crossings, ((4, 5), (2, 3), (1, 6)), wanted=0)
        self.answers(crossings, ((4, 6), (1, 5)), wanted=1)
        self.answers(crossings, ((4, 5), (1, 6)), wanted=0)

    def test_twelve_guests(self):
        self.answers(crossings, DOZEN, wanted=66)
        self.answers(crossings, REVERSED, wanted=0)
        self.answers(meetings, DOZEN, wanted=66)
        self.answers(meetings, REVERSED, wanted=66)
        self.answers(crossings, CHAIN, wanted=11)
        self.answers(crossing_counts, CHAIN, wanted=[math.comb(11, k) for k in range(12)])
        for stays in GREAT:
            self.answers(crossings, stays, wanted=len(crossing_pairs(stays)))
            self.answers(meetings, stays, wanted=len(meeting_pairs(stays)))

    def test_counts_of_great_lots(self):
        for stays in GREAT + [LATE_288]:
            counts = crossing_counts(stays)
            # The product of the polynomials, at a great t, has the counts as its digits.
            product = 1
            for option in options(stays):
                product *= sum(FAR ** k for k in range(option))
            self.assertEqual(sum(count * FAR ** k for k, count in enumerate(counts)), product)
            self.assertEqual(sum(counts), lot_many(stays))
            self.assertEqual(len(counts), meetings(stays) + 1)
            self.assertEqual(counts, counts[::-1])

    def check(self, stays):
        found = search(stays)
        crossing = [len(crossing_pairs(other)) for other in found]
        counts = [crossing.count(many) for many in range(max(crossing) + 1)]
        self.same(crossings(stays), crossing[0])
        self.same(meetings(stays), len(meeting_pairs(stays)))
        self.same(crossing_counts(stays), counts)
        self.assertEqual(sum(crossing_counts(stays)), lot_many(stays))
        for other in found:
            self.same(crossings(other), len(crossing_pairs(other)))
            self.same(meetings(other), meetings(stays))
            self.same(crossing_counts(other), counts)

    def test_against_all_stays_of_small_lots(self):
        for stays in LOTS + [LOT_288, CHAIN[:8]]:
            self.check(stays)

    def test_against_all_stays_of_all_small_stays(self):
        for stays in small_stays(3, 4):
            self.check(stays)

    def test_first_out_crosses_most_and_last_out_not_at_all(self):
        for stays in LOTS + GREAT:
            self.same(crossings(first_out(stays)), meetings(stays))
            self.same(crossings(last_out(stays)), 0)

    def test_own_list(self):
        for stays in [(), TRIO, as_lists(TRIO), DOZEN]:
            self.own_list(crossing_counts, stays)


class ArgumentsTest(Case):

    def test_lists_and_names(self):
        for call in ALL:
            wanted = call(TRIO)
            for form in forms(TRIO):
                self.answers(call, form, wanted=wanted)
                self.answers(call, stays=form, wanted=wanted)
            for stays in [TOGETHER, DISTANT, MIXED]:
                wanted = call(stays)
                for form in stays_forms(stays):
                    self.answers(call, form, wanted=wanted)


if __name__ == "__main__":
    unittest.main()
