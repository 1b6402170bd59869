"""[10] and, for its functions, [1] (c) and (d), [2] and [3]."""

import itertools
import math
import random
import unittest
from unittest import mock

from stayswap import most
from stayswap.chances import leaving_chances
from stayswap.counting import lot_many, number_of, stays_at
from stayswap.errors import NoNumber, OtherGuests, TooMany
from stayswap.wishes import meets, nearest, wish_at, wish_many
from tests.helper import (AWAY, CHAIN, DISTANT, DOZEN, FAR, LATE_288, LOT_288, LOT_324, LOTS, MIXED,
                          NEVER, SOON_288, TRIO, TOGETHER, Case, as_lists, forms, ratio, search,
                          small_stays, stays_forms, ways)

GREAT = [NEVER, CHAIN, DOZEN, MIXED]
NOBODY = (None,) * 12


def met_by(stays, wish):
    """[10] in its own words."""
    return [stay[1] for stay, day in zip(stays, wish) if day is not None] == [
        day for day in wish if day is not None]


def all_wishes(stays):
    """All wishes whose items are leaving days of the stays, one other day, or None."""
    items = [None, *sorted(day for _, day in stays), 8 * FAR]
    return itertools.product(items, repeat=len(stays))


def some_wishes(stays, many, seed):
    """Wishes for some leaving days of some stays of the lot, and a few that nobody meets."""
    chosen = random.Random(seed)
    days = [day for _, day in stays]
    found = []
    for _ in range(many):
        other = stays_at(stays, chosen.randrange(lot_many(stays)))
        wish = [day if chosen.random() < 0.5 else None for _, day in other]
        if wish and chosen.random() < 0.2:
            wish[chosen.randrange(len(wish))] = chosen.choice(days + [8 * FAR])
        found.append(tuple(wish))
    return found


class MeetsTest(Case):

    def test_examples(self):
        self.answers(meets, TRIO, (3, None, 6), wanted=True)

    def test_no_guests(self):
        self.answers(meets, (), (), wanted=True)
        self.answers(meets, [], [], wanted=True)

    def test_one_guest(self):
        self.answers(meets, ((3, 3),), (3,), wanted=True)
        self.answers(meets, ((3, 3),), (None,), wanted=True)
        self.answers(meets, ((3, 3),), (2,), wanted=False)
        self.answers(meets, ((0, FAR),), (FAR,), wanted=True)
        self.answers(meets, ((0, FAR),), (FAR - 1,), wanted=False)
        self.answers(meets, ((0, FAR),), (0,), wanted=False)
        self.answers(meets, ((0, 0),), (0,), wanted=True)
        self.answers(meets, ((0, 1),), (0,), wanted=False)

    def test_own_days_and_none(self):
        for stays in LOTS + GREAT:
            days = [day for _, day in stays]
            self.answers(meets, stays, tuple(days), wanted=True)
            self.answers(meets, stays, (None,) * len(stays), wanted=True)
            for guest, day in enumerate(days):
                wish = [None] * len(stays)
                wish[guest] = day
                self.answers(meets, stays, tuple(wish), wanted=True)

    def test_days_of_others_and_of_nobody(self):
        for stays in LOTS + GREAT:
            days = [day for _, day in stays]
            for guest, own in enumerate(days):
                for day in days + [own + 1, 8 * FAR, 0]:
                    wish = list(days)
                    wish[guest] = day
                    self.answers(meets, stays, tuple(wish), wanted=day == own)
                    wish = [None] * len(stays)
                    wish[guest] = day
                    self.answers(meets, stays, tuple(wish), wanted=day == own)

    def test_all_wishes_of_small_stays(self):
        for stays in small_stays(2, 3):
            for wish in all_wishes(stays):
                self.same(meets(stays, wish), met_by(stays, wish))

    def test_lists(self):
        for stays in forms(TRIO):
            for wish in forms((3, None, 6)):
                self.answers(meets, stays, wish, wanted=True)
            for wish in forms((3, 6, None)):
                self.answers(meets, stays, wish, wanted=False)

    def test_by_name(self):
        self.answers(meets, wish=(3, None, 6), stays=TRIO, wanted=True)
        self.answers(meets, wish=[3, None, 5], stays=as_lists(TRIO), wanted=False)


class NumbersTest(Case):

    def check(self, stays, found, wish):
        """found are all stays of the lot in ascending order."""
        meeting = [other for other in found if met_by(other, wish)]
        many = len(meeting)
        self.same(wish_many(stays, wish), many)
        self.same([wish_at(stays, wish, number) for number in range(many)], meeting)
        for wrong in (-1, many, many + 1):
            self.refuses(NoNumber, {"number": wrong}, wish_at, stays, wish, wrong)

    def test_examples(self):
        self.same([wish_many(TRIO, (None, 3, None)), wish_at(TRIO, (None, 3, None), 1),
                   wish_many(TRIO, (5, 5, None))], [2, ((1, 6), (2, 3), (4, 5)), 0])

    def test_few_guests(self):
        self.answers(wish_many, (), (), wanted=1)
        self.answers(wish_at, (), (), 0, wanted=())
        for wish in [(None,), (FAR,)]:
            self.answers(wish_many, ((0, FAR),), wish, wanted=1)
            self.answers(wish_at, ((0, FAR),), wish, 0, wanted=((0, FAR),))
        self.answers(wish_many, ((0, FAR),), (0,), wanted=0)
        self.answers(wish_many, ((3, 4),), (2,), wanted=0)

    def test_all_wishes_of_small_lots(self):
        for stays in LOTS + [CHAIN[:4]]:
            if len(stays) <= 4:
                found = sorted(search(stays))
                for wish in all_wishes(stays):
                    self.check(stays, found, wish)

    def test_from_all_stays_of_a_lot(self):
        for stays in [TRIO, AWAY, TOGETHER, ((4, 6), (1, 3), (2, 5), (6, 9))]:
            found = sorted(search(stays))
            for other in found:
                for wish in some_wishes(stays, 20, 1):
                    self.check(other, found, wish)

    def test_some_wishes_of_other_small_lots(self):
        for stays in LOTS + [LOT_288, NEVER[:5]]:
            found = sorted(search(stays))
            for wish in some_wishes(stays, 12, 2):
                self.check(stays, found, wish)

    def test_all_small_stays(self):
        for stays in small_stays(3, 3):
            found = sorted(search(stays))
            for wish in all_wishes(stays):
                self.check(stays, found, wish)

    def test_nobody_meets(self):
        for stays, wish in [(TRIO, (5, 5, None)), (TRIO, (5, None, 5)), (TRIO, (7, None, None)),
                            (TRIO, (None, None, 3)), (TRIO, (0, None, None)), (TRIO, (3, 5, 5)),
                            (TRIO, (3, 6, None)[:2] + (6,)), (AWAY, (7, None)), (AWAY, (7, 2)),
                            (AWAY, (None, 2)), (AWAY, (6, None)), (AWAY, (2, 2)),
                            (((5, 7), (1, 2)), (2, None)), (DOZEN, (20, 20) + NOBODY[2:]),
                            (DOZEN, (19,) + NOBODY[1:]), (NEVER, (15,) + NOBODY[1:]),
                            (CHAIN, NOBODY[:11] + (21,)), (MIXED, (8,) * 12)]:
            for form in stays_forms(stays):
                self.answers(wish_many, form, wish, wanted=0)
                self.answers(nearest, form, wish, wanted=None)
                for wrong in (0, -1, 1, FAR):
                    self.refuses(NoNumber, {"number": wrong}, wish_at, form, wish, wrong)

    def test_a_wish_that_leaves_too_few_days_to_others(self):
        # One who could leave early takes the only day that is possible for a late guest.
        self.answers(wish_many, TRIO, (5, 6, None), wanted=0)
        self.answers(wish_many, TRIO, (6, 5, None), wanted=0)
        self.answers(wish_many, TRIO, (None, None, 5), wanted=2)

    def test_without_wishes_as_in_the_lot(self):
        for stays in GREAT + LOTS:
            nobody = (None,) * len(stays)
            many = lot_many(stays)
            self.answers(wish_many, stays, nobody, wanted=many)
            for number in {0, 1, many // 3, many // 2, many - 2, many - 1}:
                if 0 <= number < many:
                    self.answers(wish_at, stays, nobody, number, wanted=stays_at(stays, number))

    def test_wishes_of_the_first_guests_are_a_part_of_the_lot(self):
        for stays in GREAT:
            other = stays_at(stays, lot_many(stays) * 2 // 3)
            for first in range(13):
                wish = tuple(day for _, day in other[:first]) + NOBODY[first:]
                many = wish_many(stays, wish)
                start = number_of(stays, wish_at(stays, wish, 0))
                for number in (0, many // 2, many - 1):
                    self.same(wish_at(stays, wish, number), stays_at(stays, start + number))

    def test_great_lots(self):
        for stays in GREAT:
            for wish in some_wishes(stays, 12, 3):
                free = [guest for guest, day in enumerate(wish) if day is None]
                days = sorted(day for _, day in stays)
                taken = [day for day in wish if day is not None]
                possible = len(set(taken)) == len(taken) and set(taken) <= set(days) and all(
                    stay[0] <= day for stay, day in zip(stays, wish) if day is not None)
                left = [day for day in days if day not in taken]
                many = ways([stays[guest][0] for guest in free], left) if possible else 0
                self.answers(wish_many, stays, wish, wanted=many)
                self.check_some(stays, wish, many)

    def check_some(self, stays, wish, many):
        """What wish_at returns meets the wish and has as many ahead as its number says."""
        for wrong in (-1, many, many + 1, FAR, -many - 1):
            self.refuses(NoNumber, {"number": wrong}, wish_at, stays, wish, wrong)
        for number in {0, many // 5, many // 2, many - 1}:
            if 0 <= number < many:
                other = wish_at(stays, wish, number)
                self.assertTrue(met_by(other, wish))
                self.assertEqual([arrival for arrival, _ in other],
                                 [arrival for arrival, _ in stays])
                self.same(self.ahead(other, wish), number)

    def ahead(self, other, wish):
        """How many stays of the lot come ahead of other and meet the wish; by sets of days."""
        free = [stay for stay, day in zip(other, wish) if day is None]
        many = 0
        for at, (arrival, own) in enumerate(free):
            days = [day for _, day in free[at:]]
            for day in days:
                if arrival <= day < own:
                    many += ways([stay[0] for stay in free[at + 1:]],
                                 [left for left in days if left != day])
        return many

    def test_dozen(self):
        wish = NOBODY[:4] + (31,) + NOBODY[5:]
        self.answers(wish_many, DOZEN, wish, wanted=math.factorial(11))
        self.answers(wish_at, DOZEN, wish, math.factorial(11) - 1,
                     wanted=tuple((guest, day) for guest, day in enumerate(
                         [30, 29, 28, 27, 31, 26, 25, 24, 23, 22, 21, 20])))
        self.answers(wish_at, DOZEN, wish, 1,
                     wanted=tuple((guest, day) for guest, day in enumerate(
                         [20, 21, 22, 23, 31, 24, 25, 26, 27, 28, 30, 29])))

    def test_any_integer_number(self):
        for wrong in (-1, -4, 4, FAR, -FAR, 10 ** 4000, -10 ** 4000):
            for form in stays_forms(TRIO):
                self.refuses(NoNumber, {"number": wrong}, wish_at, form, (None,) * 3, wrong)
        with self.assertRaises(LookupError):
            wish_at(TRIO, (None, 3, None), 2)

    def test_lists(self):
        for stays in forms(TRIO):
            for wish in forms((None, 3, None)):
                self.answers(wish_many, stays, wish, wanted=2)
                self.answers(wish_at, stays, wish, 1, wanted=((1, 6), (2, 3), (4, 5)))

    def test_by_name(self):
        self.answers(wish_many, wish=[None, 3, None], stays=TRIO, wanted=2)
        self.answers(wish_at, number=0, wish=(None, 3, None), stays=as_lists(TRIO),
                     wanted=((1, 5), (2, 3), (4, 6)))

    def test_chances_are_how_many_meet_it_of_the_lot(self):
        for stays in LOTS + GREAT:
            many = lot_many(stays)
            for guest in range(len(stays)):
                chances = []
                for day in sorted(day for _, day in stays):
                    wish = (None,) * guest + (day,) + (None,) * (len(stays) - guest - 1)
                    meeting = wish_many(stays, wish)
                    if meeting:
                        chances.append((day, ratio(meeting, many)))
                self.same(leaving_chances(stays, guest), chances)


class NearestTest(Case):

    def wanted(self, found, wish):
        """found are the distances of all stays of the lot."""
        meeting = [other for other in sorted(found) if met_by(other, wish)]
        return min(meeting, key=found.get, default=None)

    def test_examples(self):
        self.same([nearest(TRIO, (None, None, 5)), nearest(TRIO, (7, None, None))],
                  [((1, 3), (2, 6), (4, 5)), None])

    def test_few_guests(self):
        self.answers(nearest, (), (), wanted=())
        self.answers(nearest, ((0, FAR),), (None,), wanted=((0, FAR),))
        self.answers(nearest, [[0, FAR]], [FAR], wanted=((0, FAR),))
        self.answers(nearest, ((0, FAR),), (0,), wanted=None)

    def test_all_wishes_of_small_lots_by_search(self):
        for stays in LOTS + [CHAIN[:4]]:
            if len(stays) <= 4:
                found = search(stays)
                for wish in all_wishes(stays):
                    self.same(nearest(stays, wish), self.wanted(found, wish))

    def test_from_all_stays_of_a_lot(self):
        for stays in [TRIO, AWAY, TOGETHER, ((4, 6), (1, 3), (2, 5), (6, 9))]:
            for other in search(stays):
                found = search(other)
                for wish in some_wishes(stays, 20, 4):
                    self.same(nearest(other, wish), self.wanted(found, wish))

    def test_some_wishes_of_other_lots_by_search(self):
        for stays in LOTS + [LOT_288, LATE_288, CHAIN[:8], DISTANT]:
            if lot_many(stays) <= 300:
                found = search(stays)
                for wish in some_wishes(stays, 15, 5):
                    self.same(nearest(stays, wish), self.wanted(found, wish))

    def test_all_small_stays_by_search(self):
        for stays in small_stays(3, 3):
            found = search(stays)
            for wish in all_wishes(stays):
                self.same(nearest(stays, wish), self.wanted(found, wish))

    def test_the_first_of_several_as_near(self):
        # The guest who comes on day 3 cannot take the day 2: a third one has to help.
        base = ((0, 20), (0, 19), (0, 2), (3, 10), (1, 4), (1, 5))
        farther_come_first = 0
        for shift in range(6):
            for turned in (1, -1):
                order = [(turned * at + shift) % 6 for at in range(6)]
                stays = tuple(base[at] for at in order)
                wish = tuple(10 if at == 2 else None for at in order)
                found = search(stays)
                meeting = [other for other in sorted(found) if met_by(other, wish)]
                near = [other for other in meeting if found[other] == 2]
                self.assertEqual(min(found[other] for other in meeting), 2)
                self.assertEqual(len(near), 4)
                farther_come_first += near[0] != meeting[0]
                for form in stays_forms(stays):
                    self.answers(nearest, form, wish, wanted=near[0])
        self.assertGreater(farther_come_first, 5)

    def test_nearer_ones_ahead_of_those_that_come_first(self):
        self.answers(nearest, TOGETHER, (None, 9, None, None),
                     wanted=((4, 5), (4, 9), (4, 4), (4, 7)))
        stays = ((0, 1), (0, 2), (0, 3))
        self.answers(nearest, stays, (2, None, None), wanted=((0, 2), (0, 1), (0, 3)))
        self.answers(nearest, stays, (None, None, 1), wanted=((0, 3), (0, 2), (0, 1)))

    def test_the_stays_themselves(self):
        for stays in LOTS:
            days = tuple(day for _, day in stays)
            for mask in itertools.product([True, False], repeat=len(stays)):
                wish = tuple(day if kept else None for day, kept in zip(days, mask))
                if wish_many(stays, wish) <= 300:
                    self.answers(nearest, stays, wish, wanted=stays)

    def test_twelve_guests(self):
        # Four guests are free in DOZEN: 24 stays meet the wish.
        wish = NOBODY[:4] + tuple(reversed(range(24, 32)))
        self.answers(nearest, DOZEN, wish, wanted=DOZEN[:4] + tuple(
            (guest, 35 - guest) for guest in range(4, 12)))
        wish = NOBODY[:4] + (20,) + tuple(range(25, 32))
        self.answers(nearest, DOZEN, wish, wanted=((0, 24),) + DOZEN[1:4] + ((4, 20),) + DOZEN[5:])
        self.answers(nearest, NEVER, NOBODY, wanted=NEVER)
        for stays in (LATE_288, SOON_288):
            self.answers(nearest, stays, NOBODY, wanted=stays)

    def test_too_many(self):
        for stays in [LOT_288, LATE_288, SOON_288]:
            self.answers(nearest, stays, (None,) * len(stays), wanted=stays)
        self.refuses(TooMany, {"many": 324}, nearest, LOT_324, (None,) * 7)
        self.refuses(TooMany, {"many": 324}, nearest, as_lists(LOT_324), [None] * 7)
        self.refuses(TooMany, {"many": math.factorial(12)}, nearest, DOZEN, NOBODY)
        self.refuses(TooMany, {"many": 2048}, nearest, CHAIN, NOBODY)
        self.refuses(TooMany, {"many": 720}, nearest, DOZEN, NOBODY[:6] + tuple(range(26, 32)))
        self.refuses(TooMany, {"many": 720}, nearest, wish=NOBODY[:6] + tuple(range(31, 25, -1)),
                     stays=DOZEN)
        self.refuses(TooMany, {"many": 1024}, nearest, CHAIN, (None, 3) + NOBODY[2:])
        self.answers(nearest, DOZEN, NOBODY[:5] + tuple(range(25, 32)), wanted=DOZEN)
        with self.assertRaises(OverflowError):
            nearest(DOZEN, NOBODY)

    def test_most_itself_is_not_too_many(self):
        self.same(most.MOST, 300)
        with mock.patch("stayswap.wishes.MOST", 4):
            self.answers(nearest, TRIO, (None, None, None), wanted=TRIO)
        with mock.patch("stayswap.wishes.MOST", 3):
            self.refuses(TooMany, {"many": 4}, nearest, TRIO, (None, None, None))
            self.answers(nearest, TRIO, (None, None, 6), wanted=TRIO)

    def test_many_who_meet_it_not_the_lot(self):
        self.assertGreater(lot_many(CHAIN), 300)
        wish = NOBODY[:8] + tuple(day for _, day in CHAIN[8:])
        self.same(wish_many(CHAIN, wish), 2 ** 7)
        self.answers(nearest, CHAIN, wish, wanted=CHAIN)

    def test_lists(self):
        for stays in forms(TRIO):
            for wish in forms((None, None, 5)):
                self.answers(nearest, stays, wish, wanted=((1, 3), (2, 6), (4, 5)))
            for wish in forms((7, None, None)):
                self.answers(nearest, stays, wish, wanted=None)

    def test_by_name(self):
        self.answers(nearest, wish=[None, None, 5], stays=as_lists(TRIO),
                     wanted=((1, 3), (2, 6), (4, 5)))


class OtherGuestsTest(Case):

    def test_number_of_items(self):
        for stays in [(), ((3, 3),), TRIO, AWAY, TOGETHER, DOZEN, DISTANT]:
            for form in stays_forms(stays):
                for many in {0, 1, 2, 3, len(stays) + 1, len(stays) - 1, 13} - {-1, len(stays)}:
                    for wish in [(None,) * many, [None] * many, (5,) * many, (8 * FAR,) * many]:
                        values = {"many": many}
                        self.refuses(OtherGuests, values, meets, form, wish)
                        self.refuses(OtherGuests, values, wish_many, form, wish)
                        self.refuses(OtherGuests, values, nearest, form, wish)
                        for number in (0, -1, 1, FAR):
                            self.refuses(OtherGuests, values, wish_at, form, wish, number)

    def test_by_name(self):
        self.refuses(OtherGuests, {"many": 2}, meets, wish=(3, 5), stays=TRIO)
        self.refuses(OtherGuests, {"many": 4}, wish_many, wish=(3, 5, 6, None), stays=TRIO)
        self.refuses(OtherGuests, {"many": 0}, wish_at, number=9, wish=(), stays=TRIO)
        self.refuses(OtherGuests, {"many": 13}, nearest, wish=NOBODY + (None,), stays=DOZEN)

    def test_is_a_value_error(self):
        for call, more in [(meets, ()), (wish_many, ()), (wish_at, (0,)), (nearest, ())]:
            with self.assertRaises(ValueError):
                call(TRIO, (3, 5), *more)


if __name__ == "__main__":
    unittest.main()
