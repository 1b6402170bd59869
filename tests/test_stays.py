"""[4] and, for its functions, [2] and [3]."""

import unittest

from stayswap.errors import NoGuest
from stayswap.stays import guests_on, is_stays, nights, order_of, share_day
from tests.helper import AWAY, FAR, TRIO, Case, forms, small_stays


class IsStaysTest(Case):

    def yes(self, value):
        self.answers(is_stays, value, wanted=True)

    def no(self, value):
        self.answers(is_stays, value, wanted=False)

    def test_examples(self):
        got = [is_stays(((1, 3), (1, 4))), is_stays(((1, 3), (2, 3))), is_stays(((4, 3),)),
               is_stays(())]
        self.same(got, [True, False, False, True])

    def test_by_name(self):
        self.answers(is_stays, value=TRIO, wanted=True)
        self.answers(is_stays, value=None, wanted=False)

    def test_stays(self):
        for stays in [(), TRIO, AWAY, ((0, 0),), ((3, 3),), ((1, 3), (1, 4)), ((2, 2), (2, 3)),
                      ((4, 6), (1, 3)), ((0, 9), (3, 4), (3, 3))]:
            with self.subTest(stays=stays):
                self.yes(stays)

    def test_all_small_stays(self):
        for stays in small_stays(2, 3):
            self.yes(stays)

    def test_equal_leaving_days(self):
        self.no(((1, 3), (2, 3)))
        self.no(((1, 3), (1, 3)))
        self.no(((1, 3), (2, 5), (3, 3)))
        self.no(((1, FAR), (2, 5), (3, FAR)))

    def test_arrival_behind_leaving(self):
        self.no(((4, 3),))
        self.no(((1, 3), (6, 5)))
        self.no(((6, 5), (1, 3)))
        self.no(((FAR + 1, FAR),))

    def test_negative(self):
        self.no(((-1, 3),))
        self.no(((-2, -1),))
        self.no(((1, 3), (-1, 0)))
        self.no(((0, -1),))

    def test_true_and_false_are_no_integers(self):
        self.no(((True, 3),))
        self.no(((False, 3),))
        self.no(((0, True),))
        self.no(((0, False),))
        self.no(((1, 3), (False, True)))
        self.no((True, 3))

    def test_lists_are_no_tuples(self):
        for form in forms(TRIO):
            with self.subTest(form=form):
                if form == TRIO:
                    self.yes(form)
                else:
                    self.no(form)
        self.no([])
        self.no(([],))
        self.no([[]])

    def test_pairs_of_another_length(self):
        self.no(((1,),))
        self.no(((),))
        self.no(((1, 3, 5),))
        self.no(((1, 3), (2,)))
        self.no(((1, 3), (2, 5, 6)))
        self.no(((1, 3), ()))

    def test_other_kinds(self):
        for value in [None, True, False, 0, 1, -1, FAR, "", "1-3", "13", (1, 3), ("13",),
                      ("ab", "cd"), ((1, 3), None), (None,), ((1, None),), ((None, 3),),
                      (("1", "3"),), ((1, "3"),), (("1", 3),), (((1, 3),),), (((1,), 3),),
                      ((1, (3,)),), ((1, [3]),), (([1], 3),), [[1, 3]], ["a"], (0,),
                      ((((((((1,),),),),),),),), [[[[[[[[]]]]]]]], ((), ())]:
            with self.subTest(value=value):
                self.no(value)

    def test_beyond_the_limits(self):
        many = tuple((day, day + 5) for day in range(5000))
        self.yes(many)
        self.no(many + ((0, 5),))
        self.no(many + ((0, 10 ** 6), 7))
        self.yes(((FAR * FAR, FAR * FAR), (0, FAR * FAR + 1)))
        self.yes(((10 ** 4000, 10 ** 4000 + 1), (1, 10 ** 4000)))
        self.no(((10 ** 4000, 10 ** 4000 - 1),))


class NightsTest(Case):

    def test_examples(self):
        got = [nights(TRIO), guests_on(TRIO, 3), guests_on(TRIO, 7)]
        self.same(got, [(2, 3, 2), [0, 1], []])

    def test_no_guests(self):
        self.answers(nights, (), wanted=())
        self.answers(nights, [], wanted=())

    def test_one_guest(self):
        self.answers(nights, ((3, 3),), wanted=(0,))
        self.answers(nights, ((0, 9),), wanted=(9,))

    def test_great_days(self):
        self.answers(nights, ((0, FAR), (FAR, FAR + 1), (1, FAR - 1)), wanted=(FAR, 1, FAR - 2))

    def test_lists(self):
        for form in forms(TRIO):
            self.answers(nights, form, wanted=(2, 3, 2))

    def test_by_name(self):
        self.answers(nights, stays=[[1, 3], (2, 5)], wanted=(2, 3))


class GuestsOnTest(Case):

    def test_around_arrival_and_leaving(self):
        for day, there in [(-1, []), (0, []), (1, [0]), (2, [0, 1]), (3, [0, 1]), (4, [1, 2]),
                           (5, [1, 2]), (6, [2]), (7, [])]:
            with self.subTest(day=day):
                self.answers(guests_on, TRIO, day, wanted=there)

    def test_one_day(self):
        for day, there in [(2, []), (3, [0]), (4, [])]:
            self.answers(guests_on, ((3, 3),), day, wanted=there)

    def test_no_guests(self):
        self.answers(guests_on, (), 0, wanted=[])
        self.answers(guests_on, [], 5, wanted=[])

    def test_by_numbers_not_by_arrivals(self):
        self.answers(guests_on, ((5, 9), (2, 6), (5, 7)), 5, wanted=[0, 1, 2])

    def test_negative_days(self):
        self.answers(guests_on, ((0, 3),), -1, wanted=[])
        self.answers(guests_on, ((0, 3),), -FAR, wanted=[])
        self.answers(guests_on, ((0, 3),), 0, wanted=[0])

    def test_great_days(self):
        stays = ((0, FAR), (FAR, FAR + 1), (1, FAR - 1))
        for day, there in [(FAR - 1, [0, 2]), (FAR, [0, 1]), (FAR + 1, [1]), (FAR + 2, [])]:
            self.answers(guests_on, stays, day, wanted=there)

    def test_all_small_stays(self):
        for stays in small_stays(3, 3):
            for day in range(-1, 5):
                wanted = [guest for guest in range(len(stays))
                          if day in range(stays[guest][0], stays[guest][1] + 1)]
                self.same(guests_on(stays, day), wanted)

    def test_lists(self):
        for form in forms(TRIO):
            self.answers(guests_on, form, 4, wanted=[1, 2])

    def test_by_name(self):
        self.answers(guests_on, stays=TRIO, day=4, wanted=[1, 2])
        self.answers(guests_on, [[1, 3]], day=4, wanted=[])

    def test_own_list(self):
        self.own_list(guests_on, TRIO, 3)
        self.own_list(guests_on, [[1, 3]], 7)


class OrderOfTest(Case):

    def test_example(self):
        self.answers(order_of, ((5, 9), (2, 3), (5, 6)), wanted=[1, 0, 2])

    def test_no_guests(self):
        self.answers(order_of, (), wanted=[])
        self.answers(order_of, [], wanted=[])

    def test_same_arrival_by_numbers(self):
        self.answers(order_of, ((4, 9), (4, 8), (4, 7), (4, 6)), wanted=[0, 1, 2, 3])
        self.answers(order_of, ((4, 5), (1, 8), (4, 7), (1, 6)), wanted=[1, 3, 0, 2])

    def test_leaving_days_do_not_matter(self):
        self.answers(order_of, ((3, 4), (2, 9), (1, 3)), wanted=[2, 1, 0])

    def test_great_days(self):
        self.answers(order_of, ((FAR, FAR + 1), (FAR - 1, FAR), (0, 3)), wanted=[2, 1, 0])

    def test_twelve_guests(self):
        stays = tuple((11 - guest, 20 + guest) for guest in range(12))
        self.answers(order_of, stays, wanted=list(range(11, -1, -1)))

    def test_lists(self):
        for form in forms(((5, 9), (2, 3), (5, 6))):
            self.answers(order_of, form, wanted=[1, 0, 2])

    def test_by_name(self):
        self.answers(order_of, stays=[[5, 9], (2, 3)], wanted=[1, 0])

    def test_own_list(self):
        self.own_list(order_of, TRIO)
        self.own_list(order_of, [])


class ShareDayTest(Case):

    def test_examples(self):
        got = [order_of(((5, 9), (2, 3), (5, 6))), share_day(TRIO, 0, 1), share_day(TRIO, 0, 2)]
        self.same(got, [[1, 0, 2], True, False])
        self.refuses(NoGuest, {"guest": 3}, share_day, TRIO, 0, 3)

    def test_themself(self):
        for stays in [TRIO, AWAY, ((0, 0),)]:
            for guest in range(len(stays)):
                self.answers(share_day, stays, guest, guest, wanted=True)

    def test_one_common_day(self):
        self.answers(share_day, ((1, 3), (3, 5)), 0, 1, wanted=True)
        self.answers(share_day, ((1, 3), (3, 5)), 1, 0, wanted=True)
        self.answers(share_day, ((3, 3), (3, 5)), 0, 1, wanted=True)

    def test_no_common_day(self):
        self.answers(share_day, ((1, 3), (4, 5)), 0, 1, wanted=False)
        self.answers(share_day, ((1, 3), (4, 5)), 1, 0, wanted=False)
        self.answers(share_day, AWAY, 1, 0, wanted=False)

    def test_one_within_the_other(self):
        self.answers(share_day, ((1, 9), (4, 5)), 0, 1, wanted=True)
        self.answers(share_day, ((1, 9), (4, 5)), 1, 0, wanted=True)

    def test_equal_arrivals(self):
        self.answers(share_day, ((2, 2), (2, 5)), 1, 0, wanted=True)

    def test_great_days(self):
        stays = ((0, FAR), (FAR, FAR + 2), (FAR + 1, FAR + 1))
        self.answers(share_day, stays, 0, 1, wanted=True)
        self.answers(share_day, stays, 0, 2, wanted=False)
        self.answers(share_day, stays, 2, 1, wanted=True)

    def test_all_small_stays(self):
        for stays in small_stays(2, 4):
            there = [set(range(arrival, leaving + 1)) for arrival, leaving in stays]
            for one in range(len(stays)):
                for other in range(len(stays)):
                    self.same(share_day(stays, one, other), bool(there[one] & there[other]))

    def test_no_guest(self):
        for wrong in [-1, -3, -FAR, 3, 4, FAR]:
            values = {"guest": wrong}
            self.refuses(NoGuest, values, share_day, TRIO, wrong, 0)
            self.refuses(NoGuest, values, share_day, TRIO, 0, wrong)
            self.refuses(NoGuest, values, share_day, TRIO, wrong, wrong)
        with self.assertRaises(LookupError):
            share_day(TRIO, 0, -1)

    def test_number_that_python_does_not_write_out(self):
        with self.assertRaises(NoGuest) as caught:
            share_day(TRIO, 0, 10 ** 5000)
        self.assertTrue(caught.exception.guest == 10 ** 5000)

    def test_one_before_other(self):
        self.refuses(NoGuest, {"guest": -1}, share_day, TRIO, -1, 3)
        self.refuses(NoGuest, {"guest": 3}, share_day, TRIO, 3, -1)
        self.refuses(NoGuest, {"guest": 7}, share_day, TRIO, 7, 8)

    def test_no_guests(self):
        self.refuses(NoGuest, {"guest": 0}, share_day, (), 0, 0)
        self.refuses(NoGuest, {"guest": -1}, share_day, [], -1, 0)

    def test_lists(self):
        for form in forms(TRIO):
            self.answers(share_day, form, 1, 0, wanted=True)
            self.answers(share_day, form, 2, 0, wanted=False)
            self.refuses(NoGuest, {"guest": 3}, share_day, form, 3, 0)

    def test_by_name(self):
        self.answers(share_day, stays=TRIO, one=0, other=2, wanted=False)
        self.answers(share_day, TRIO, other=1, one=0, wanted=True)
        self.refuses(NoGuest, {"guest": 5}, share_day, stays=TRIO, other=-1, one=5)


if __name__ == "__main__":
    unittest.main()
