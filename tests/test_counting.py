"""[8] and, for its functions, [1] (c), [2] and [3]."""

import fractions
import itertools
import math
import unittest

from stayswap.counting import (farthest, first_stays, lot_many, mean_distance, number_of, obstacle,
                               options, spheres, stays_at)
from stayswap.errors import Barred, NoNumber, Obstacle, OtherGuests
from stayswap.stays import is_stays
from tests.helper import (AWAY, CHAIN, DISTANT, DOZEN, FAR, LOTS, MIXED, NEVER, TRIO, TOGETHER,
                          Case, as_lists, forms, ratio, search, small_stays, stays_forms)

COUNTS = [options, lot_many, spheres, farthest, mean_distance]
# The days of DOZEN by their places, from the last one: 12! - 1 is the last number.
REVERSED = tuple((guest, 31 - guest) for guest in range(12))
LATER = ((1, 3), (2, 5), (4, 7))


def all_options(stays):
    """[8] in its own words, from the leaving days and who comes behind."""
    found = []
    for guest, (arrival, _) in enumerate(stays):
        days = [leaving for _, leaving in stays if leaving >= arrival]
        behind = [other for other, stay in enumerate(stays)
                  if (stay[0], other) > (arrival, guest)]
        found.append(len(days) - len(behind))
    return tuple(found)


def sizes(found):
    """How many of the found stays are at each distance."""
    return [list(found.values()).count(far) for far in range(max(found.values()) + 1)]


class OptionsTest(Case):

    def test_examples(self):
        self.same([options(TRIO), lot_many(TRIO), lot_many(AWAY), lot_many(())],
                  [(1, 2, 2), 4, 1, 1])

    def test_few_guests(self):
        self.answers(options, (), wanted=())
        self.answers(options, ((3, 3),), wanted=(1,))
        self.answers(lot_many, (), wanted=1)
        self.answers(lot_many, ((0, FAR),), wanted=1)

    def test_by_the_numbers_of_the_guests(self):
        self.answers(options, ((4, 6), (2, 5), (1, 3)), wanted=(2, 2, 1))
        self.answers(options, TOGETHER, wanted=(1, 2, 3, 4))
        self.answers(options, TOGETHER[::-1], wanted=(1, 2, 3, 4))
        self.answers(options, DISTANT, wanted=(3, 1, 3, 2, 4))

    def test_twelve_guests(self):
        self.answers(options, DOZEN, wanted=tuple(range(1, 13)))
        self.answers(options, NEVER, wanted=(1,) * 12)
        self.answers(options, CHAIN, wanted=(1,) + (2,) * 11)
        self.answers(options, MIXED, wanted=all_options(MIXED))
        self.answers(lot_many, DOZEN, wanted=math.factorial(12))
        self.answers(lot_many, NEVER, wanted=1)
        self.answers(lot_many, CHAIN, wanted=2048)
        self.answers(lot_many, MIXED, wanted=math.prod(all_options(MIXED)))

    def test_small_lots_by_search(self):
        for stays in LOTS:
            found = search(stays)
            for other in found:
                self.same(options(other), all_options(stays))
                self.same(lot_many(other), len(found))

    def test_all_small_stays_by_search(self):
        for stays in small_stays(3, 4):
            self.same(options(stays), all_options(stays))
            self.same(lot_many(stays), len(search(stays)))

    def test_lists(self):
        for form in forms(TRIO):
            self.answers(options, form, wanted=(1, 2, 2))
            self.answers(lot_many, form, wanted=4)

    def test_by_name(self):
        self.answers(options, stays=TRIO, wanted=(1, 2, 2))
        self.answers(lot_many, stays=as_lists(TRIO), wanted=4)


class NumbersTest(Case):

    def test_examples(self):
        self.same([stays_at(TRIO, 3), number_of(TRIO, TRIO),
                   number_of(TRIO, ((1, 5), (2, 3), (4, 6)))], [((1, 6), (2, 3), (4, 5)), 0, 2])
        self.refuses(NoNumber, {"number": 4}, stays_at, TRIO, 4)

    def test_few_guests(self):
        for stays in [(), ((3, 3),), ((0, FAR),), AWAY, NEVER]:
            self.answers(stays_at, stays, 0, wanted=stays)
            self.answers(number_of, stays, stays, wanted=0)

    def check_all(self, stays):
        for number, other in enumerate(sorted(search(stays))):
            self.same(stays_at(stays, number), other)
            self.same(number_of(stays, other), number)

    def test_small_lots(self):
        for stays in LOTS:
            for other in search(stays):
                self.check_all(other)

    def test_all_small_stays(self):
        for stays in small_stays(3, 4):
            self.check_all(stays)
        self.check_all(CHAIN)

    def test_no_number(self):
        for stays, many in [((), 1), (((3, 3),), 1), (TRIO, 4), (CHAIN, 2048),
                            (DOZEN, math.factorial(12)), (MIXED, math.prod(all_options(MIXED)))]:
            for form in stays_forms(stays):
                for wrong in [-1, -2, -many, many, many + 1, FAR, -FAR, 10 ** 4000]:
                    self.refuses(NoNumber, {"number": wrong}, stays_at, form, wrong)
            self.assertEqual(number_of(stays, stays_at(stays, many - 1)), many - 1)
        self.refuses(NoNumber, {"number": -1}, stays_at, number=-1, stays=TRIO)
        with self.assertRaises(LookupError):
            stays_at(TRIO, 4)

    def test_great_numbers(self):
        last = math.factorial(12) - 1
        self.answers(stays_at, DOZEN, 0, wanted=DOZEN)
        self.answers(stays_at, REVERSED, 0, wanted=DOZEN)
        self.answers(stays_at, DOZEN, last, wanted=REVERSED)
        self.answers(number_of, DOZEN, REVERSED, wanted=last)
        self.answers(number_of, REVERSED, DOZEN, wanted=0)
        for number in [1, 2, 719, 12345678, 239500800, 400000000, last - 1]:
            left, days, wanted = number, list(range(20, 32)), []
            for guest in range(12):
                at, left = divmod(left, math.factorial(11 - guest))
                wanted.append((guest, days.pop(at)))
            self.answers(stays_at, DOZEN, number, wanted=tuple(wanted))
            self.answers(number_of, DOZEN, tuple(wanted), wanted=number)
            self.answers(number_of, REVERSED, as_lists(wanted), wanted=number)

    def test_ascending_in_a_great_lot(self):
        many = lot_many(MIXED)
        before = ()
        for number in range(0, many, 997):
            found = stays_at(MIXED, number)
            self.assertTrue(is_stays(found))
            self.assertLess(before, found)
            self.assertEqual(sorted(stay[1] for stay in found), sorted(stay[1] for stay in MIXED))
            self.assertEqual([stay[0] for stay in found], [stay[0] for stay in MIXED])
            self.assertEqual(number_of(MIXED, found), number)
            before = found
        for number in range(500, 600):
            self.assertLess(stays_at(MIXED, number), stays_at(MIXED, number + 1))

    def test_barred(self):
        for stays in stays_forms(TRIO):
            self.refuses(Barred, {"reason": 1}, number_of, stays, ((1, 6), (1, 3), (4, 5)))
            self.refuses(Barred, {"reason": "days"}, number_of, stays, LATER)
            self.refuses(Barred, {"reason": "days"}, number_of, stays, as_lists(LATER))
        self.refuses(Barred, {"reason": 0}, number_of, other=((2, 3),), stays=((3, 3),))
        with self.assertRaises(RuntimeError):
            number_of(TRIO, LATER)

    def test_other_guests(self):
        for stays in stays_forms(TRIO):
            self.refuses(OtherGuests, {"many": 2}, number_of, stays, AWAY)
            self.refuses(OtherGuests, {"many": 0}, number_of, stays, [])
            self.refuses(OtherGuests, {"many": 12}, number_of, stays, DOZEN)
            self.refuses(OtherGuests, {"many": 4}, number_of, stays, TOGETHER)
        with self.assertRaises(ValueError):
            number_of(TRIO, ())

    def test_lists(self):
        for stays in forms(TRIO):
            self.answers(stays_at, stays, 3, wanted=((1, 6), (2, 3), (4, 5)))
            for other in forms(((1, 5), (2, 3), (4, 6))):
                self.answers(number_of, stays, other, wanted=2)

    def test_by_name(self):
        self.answers(stays_at, stays=TRIO, number=1, wanted=((1, 3), (2, 6), (4, 5)))
        self.answers(stays_at, number=0, stays=as_lists(TRIO), wanted=TRIO)
        self.answers(number_of, stays=TRIO, other=((1, 3), (2, 6), (4, 5)), wanted=1)
        self.answers(number_of, other=as_lists(TRIO), stays=TRIO, wanted=0)


class SpheresTest(Case):

    def test_examples(self):
        self.same([spheres(TRIO), farthest(TRIO), mean_distance(TRIO), spheres(())],
                  [[1, 2, 1], 2, (1, 1), [1]])

    def test_few_guests(self):
        for stays in [(), [], ((3, 3),), [[0, FAR]], AWAY, NEVER]:
            self.answers(spheres, stays, wanted=[1])
            self.answers(farthest, stays, wanted=0)
            self.answers(mean_distance, stays, wanted=(0, 1))

    def check(self, stays):
        """Against a search, and the same from all stays of the lot."""
        found = search(stays)
        counts = sizes(found)
        mean = ratio(sum(found.values()), len(found))
        for other in found:
            self.same(spheres(other), counts)
            self.same(farthest(other), len(counts) - 1)
            self.same(mean_distance(other), mean)
        return counts

    def test_small_lots_by_search(self):
        for stays in LOTS + [CHAIN]:
            counts = self.check(stays)
            for other in list(search(stays))[:30]:
                self.assertEqual(sizes(search(other)), counts)

    def test_all_small_stays_by_search(self):
        for stays in small_stays(3, 4):
            self.check(stays)

    def test_twelve_guests(self):
        # As many permutations have so many cycles.
        counts = [1]
        for more in range(1, 12):
            counts = [a + more * b for a, b in zip(counts + [0], [0] + counts)]
        self.answers(spheres, DOZEN, wanted=counts)
        self.assertEqual(sum(spheres(DOZEN)), math.factorial(12))
        self.answers(farthest, DOZEN, wanted=11)
        mean = 12 - sum(fractions.Fraction(1, k) for k in range(1, 13))
        self.answers(mean_distance, DOZEN, wanted=mean.as_integer_ratio())
        self.answers(spheres, CHAIN, wanted=[math.comb(11, far) for far in range(12)])
        self.answers(mean_distance, CHAIN, wanted=(11, 2))
        self.assertEqual(sum(spheres(MIXED)), lot_many(MIXED))
        self.answers(farthest, MIXED, wanted=sum(option > 1 for option in all_options(MIXED)))

    def test_lists(self):
        for form in forms(TRIO):
            self.answers(spheres, form, wanted=[1, 2, 1])
            self.answers(farthest, form, wanted=2)
            self.answers(mean_distance, form, wanted=(1, 1))

    def test_by_name(self):
        self.answers(spheres, stays=TRIO, wanted=[1, 2, 1])
        self.answers(farthest, stays=TRIO, wanted=2)
        self.answers(mean_distance, stays=TOGETHER, wanted=(23, 12))

    def test_own_list(self):
        self.own_list(spheres, TRIO)
        self.own_list(spheres, ())
        self.own_list(spheres, as_lists(DOZEN))


class FirstStaysTest(Case):

    def test_examples(self):
        self.same([obstacle((4, 1, 4), (3, 9, 2)), obstacle((1, 2, 4), (6, 3, 5)),
                   first_stays((1, 2, 4), (6, 3, 5))], [4, None, ((1, 3), (2, 5), (4, 6))])
        self.refuses(Obstacle, {"day": 4}, first_stays, (4, 4), (3, 9))

    def check(self, arrivals, days):
        """Against all orders of the days."""
        every = [tuple(zip(arrivals, order)) for order in itertools.permutations(days)]
        found = [stays for stays in every if is_stays(stays)]
        if found:
            self.answers(obstacle, arrivals, days, wanted=None)
            self.answers(first_stays, arrivals, days, wanted=min(found))
            return
        wrong = max(day for day in arrivals
                    if sum(arrival >= day for arrival in arrivals)
                    > sum(leaving >= day for leaving in days))
        self.answers(obstacle, arrivals, days, wanted=wrong)
        self.refuses(Obstacle, {"day": wrong}, first_stays, arrivals, days)

    def test_all_of_few_guests(self):
        for many in range(4):
            for arrivals in itertools.product(range(4), repeat=many):
                for days in itertools.permutations(range(5), many):
                    self.check(arrivals, days)

    def test_more_guests(self):
        for arrivals in [(0, 3, 3, 5, 1), (6, 6, 2, 2, 0), (FAR, 0, FAR - 1, 7, FAR),
                         (4, 4, 4, 4, 4), (8, 7, 6, 5, 4)]:
            for days in [(4, 5, 6, 7, 8), (9, 8, 3, 2, 7), (FAR, 5, FAR + 1, FAR - 1, FAR + 2),
                         (FAR, FAR - 1, 0, 8, FAR + 1), (1, 3, 5, 7, 9)]:
                self.check(arrivals, days)

    def test_first_of_the_lot(self):
        for stays in LOTS + [NEVER, CHAIN, DOZEN, MIXED]:
            arrivals = tuple(stay[0] for stay in stays)
            days = tuple(stay[1] for stay in stays)
            first = stays_at(stays, 0)
            for order in [days, days[::-1], tuple(sorted(days)), list(days)]:
                self.answers(obstacle, arrivals, order, wanted=None)
                self.answers(first_stays, arrivals, order, wanted=first)

    def test_twelve_guests(self):
        arrivals = tuple(range(12))
        days = tuple(range(11, -1, -1))
        self.answers(first_stays, arrivals, days, wanted=tuple(zip(arrivals, arrivals)))
        self.answers(obstacle, arrivals, days[1:] + (30,), wanted=None)
        self.answers(obstacle, (11,) + arrivals[1:], days, wanted=11)
        self.answers(obstacle, (FAR,) * 12, days, wanted=FAR)
        self.refuses(Obstacle, {"day": 11}, first_stays, (11,) + arrivals[1:], days)

    def test_the_greatest_arrival(self):
        # Too few days from 2, 5 and 8 on.
        self.answers(obstacle, (2, 5, 8), (0, 1, 3), wanted=8)
        self.answers(obstacle, (8, 5, 2), (9, 1, 3), wanted=5)
        self.answers(obstacle, (5, 8, 2), (9, 1, 7), wanted=2)
        # The day of arrival counts as a leaving day; a day that no one comes on is no obstacle.
        self.answers(obstacle, (5, 5), (5, 6), wanted=None)
        self.answers(obstacle, (5, 5), (4, 6), wanted=5)

    def test_other_guests(self):
        for arrivals, days in [((), (3,)), ((3,), ()), ((1, 2, 4), (6, 3)), ((1, 2), (6, 3, 5)),
                               ((9, 9), (1,)), ((9,), (1, 2)), (tuple(range(12)), (0, 1))]:
            for call in [obstacle, first_stays]:
                for first in [arrivals, list(arrivals)]:
                    for second in [days, list(days)]:
                        self.refuses(OtherGuests, {"many": len(days)}, call, first, second)
                with self.assertRaises(ValueError):
                    call(arrivals, days)

    def test_obstacle_is_a_value_error(self):
        with self.assertRaises(ValueError):
            first_stays((4,), (3,))

    def test_lists(self):
        for arrivals in forms((1, 2, 4)):
            for days in forms((6, 3, 5)):
                self.answers(obstacle, arrivals, days, wanted=None)
                self.answers(first_stays, arrivals, days, wanted=TRIO)
            for days in forms((6, 3, 0)):
                self.answers(obstacle, arrivals, days, wanted=1)
                self.refuses(Obstacle, {"day": 1}, first_stays, arrivals, days)

    def test_by_name(self):
        self.answers(obstacle, arrivals=(4,), days=(3,), wanted=4)
        self.answers(obstacle, days=[5], arrivals=(4,), wanted=None)
        self.answers(first_stays, days=(6, 3, 5), arrivals=[1, 2, 4], wanted=TRIO)
        self.refuses(Obstacle, {"day": 4}, first_stays, days=(3,), arrivals=(4,))
        self.refuses(OtherGuests, {"many": 2}, obstacle, days=(3, 9), arrivals=(4,))

    def test_no_guests(self):
        for arrivals in [(), []]:
            for days in [(), []]:
                self.answers(obstacle, arrivals, days, wanted=None)
                self.answers(first_stays, arrivals, days, wanted=())


if __name__ == "__main__":
    unittest.main()
