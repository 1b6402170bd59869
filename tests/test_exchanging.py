"""[5] and, for its functions, [2] and [3]."""

import unittest

from stayswap.errors import Apart, NoGuest
from stayswap.exchanging import exchanged, exchanges, run
from stayswap.stays import is_stays, share_day
from tests.helper import AWAY, DOZEN, FAR, TRIO, Case, forms, small_stays


def common_days(stays, one, other):
    return set(range(stays[one][0], stays[one][1] + 1)) & set(
        range(stays[other][0], stays[other][1] + 1))


def many_pairs(many):
    """So many pairs of different guests of DOZEN, the lesser first and last in turn."""
    return [(k * 7 % 12, (k * 7 + 1 + k * 5 % 11) % 12) for k in range(many)]


class ExchangesTest(Case):

    def test_examples(self):
        self.same([exchanges(TRIO), exchanges(AWAY)], [[(0, 1), (1, 2)], []])

    def test_few_guests(self):
        self.answers(exchanges, (), wanted=[])
        self.answers(exchanges, [], wanted=[])
        self.answers(exchanges, ((1, 3),), wanted=[])

    def test_lesser_first_whatever_the_arrivals(self):
        self.answers(exchanges, ((5, 9), (2, 6), (1, 5)), wanted=[(0, 1), (0, 2), (1, 2)])

    def test_equal_arrivals_and_single_days(self):
        self.answers(exchanges, ((2, 2), (2, 4), (3, 3)), wanted=[(0, 1), (1, 2)])

    def test_great_days(self):
        stays = ((0, FAR), (FAR, FAR + 2), (FAR + 1, FAR + 1))
        self.answers(exchanges, stays, wanted=[(0, 1), (1, 2)])

    def test_twelve_guests(self):
        wanted = [(one, other) for one in range(12) for other in range(one + 1, 12)]
        self.answers(exchanges, DOZEN, wanted=wanted)

    def test_all_small_stays(self):
        for stays in small_stays(3, 4):
            wanted = [(one, other) for one in range(len(stays)) for other in range(len(stays))
                      if one < other and common_days(stays, one, other)]
            self.same(exchanges(stays), wanted)

    def test_lists(self):
        for form in forms(TRIO):
            self.answers(exchanges, form, wanted=[(0, 1), (1, 2)])

    def test_by_name(self):
        self.answers(exchanges, stays=TRIO, wanted=[(0, 1), (1, 2)])

    def test_own_list(self):
        self.own_list(exchanges, TRIO)
        self.own_list(exchanges, [[1, 2], [5, 7]])


class ExchangedTest(Case):

    def test_examples(self):
        got = [exchanged(TRIO, 0, 1), run(TRIO, [(0, 1), (2, 0)])]
        self.same(got, [((1, 5), (2, 3), (4, 6)), ((1, 6), (2, 3), (4, 5))])
        self.refuses(Apart, {"one": 0, "other": 2}, exchanged, TRIO, 0, 2)

    def test_either_order(self):
        self.answers(exchanged, TRIO, 1, 0, wanted=((1, 5), (2, 3), (4, 6)))
        self.answers(exchanged, TRIO, 1, 2, wanted=((1, 3), (2, 6), (4, 5)))
        self.answers(exchanged, TRIO, 2, 1, wanted=((1, 3), (2, 6), (4, 5)))

    def test_great_days(self):
        self.answers(exchanged, ((0, FAR), (FAR, FAR + 1)), 0, 1,
                     wanted=((0, FAR + 1), (FAR, FAR)))

    def test_all_small_stays(self):
        for stays in small_stays(3, 4):
            for one in range(len(stays)):
                for other in range(len(stays)):
                    self.check_pair(stays, one, other)

    def check_pair(self, stays, one, other):
        if one == other or not common_days(stays, one, other):
            self.refuses(Apart, {"one": one, "other": other}, exchanged, stays, one, other)
            return
        got = exchanged(stays, one, other)
        leaving = [stay[1] for stay in stays]
        leaving[one], leaving[other] = leaving[other], leaving[one]
        self.same(got, tuple((stay[0], day) for stay, day in zip(stays, leaving)))
        self.assertTrue(is_stays(got))
        self.assertTrue(share_day(got, one, other))
        self.same(exchanged(got, other, one), stays)

    def test_no_guest(self):
        for wrong in [-1, -3, -FAR, 3, 4, FAR]:
            values = {"guest": wrong}
            self.refuses(NoGuest, values, exchanged, TRIO, wrong, 0)
            self.refuses(NoGuest, values, exchanged, TRIO, 0, wrong)
            self.refuses(NoGuest, values, exchanged, TRIO, wrong, wrong)

    def test_one_before_other(self):
        self.refuses(NoGuest, {"guest": -1}, exchanged, TRIO, -1, 3)
        self.refuses(NoGuest, {"guest": 3}, exchanged, TRIO, 3, -1)
        self.refuses(NoGuest, {"guest": 0}, exchanged, (), 0, 1)

    def test_apart(self):
        self.refuses(Apart, {"one": 2, "other": 0}, exchanged, TRIO, 2, 0)
        self.refuses(Apart, {"one": 1, "other": 1}, exchanged, TRIO, 1, 1)
        self.refuses(Apart, {"one": 1, "other": 0}, exchanged, AWAY, 1, 0)
        self.refuses(Apart, {"one": 0, "other": 0}, exchanged, ((3, 3),), 0, 0)
        with self.assertRaises(RuntimeError):
            exchanged(TRIO, 0, 2)

    def test_lists(self):
        for form in forms(TRIO):
            self.answers(exchanged, form, 0, 1, wanted=((1, 5), (2, 3), (4, 6)))
            self.refuses(Apart, {"one": 0, "other": 2}, exchanged, form, 0, 2)
            self.refuses(NoGuest, {"guest": 3}, exchanged, form, 0, 3)

    def test_by_name(self):
        self.answers(exchanged, stays=TRIO, one=0, other=1, wanted=((1, 5), (2, 3), (4, 6)))
        self.answers(exchanged, TRIO, other=1, one=0, wanted=((1, 5), (2, 3), (4, 6)))
        self.refuses(Apart, {"one": 2, "other": 0}, exchanged, other=0, one=2, stays=TRIO)

    def test_later_changes_have_no_effect(self):
        stays = [[1, 3], [2, 5], [4, 6]]
        got = exchanged(stays, 0, 1)
        stays[2][1] = 99
        stays.pop()
        self.same(got, ((1, 5), (2, 3), (4, 6)))


class RunTest(Case):

    def test_no_pairs(self):
        self.answers(run, TRIO, [], wanted=TRIO)
        self.answers(run, TRIO, (), wanted=TRIO)
        self.answers(run, (), [], wanted=())
        self.answers(run, [], (), wanted=())
        for form in forms(TRIO):
            self.answers(run, form, [], wanted=TRIO)

    def test_one_after_another(self):
        self.answers(run, TRIO, [(0, 1)], wanted=((1, 5), (2, 3), (4, 6)))
        self.answers(run, TRIO, [(0, 1), (0, 1)], wanted=TRIO)
        # Only the first exchange makes the second one possible, and ends the chance of (1, 2).
        self.answers(run, TRIO, [(1, 0), (0, 2)], wanted=((1, 6), (2, 3), (4, 5)))
        self.refuses(Apart, {"one": 0, "other": 2}, run, TRIO, [(0, 2), (1, 0)])
        self.refuses(Apart, {"one": 2, "other": 1}, run, TRIO, [(0, 1), (2, 1)])

    def test_all_pairs_of_exchanges(self):
        for first in exchanges(TRIO):
            middle = exchanged(TRIO, *first)
            for second in exchanges(middle):
                self.answers(run, TRIO, [first, second], wanted=exchanged(middle, *second))

    def test_a_hundred(self):
        pairs = many_pairs(100)
        leaving = [day for _, day in DOZEN]
        for one, other in pairs:
            leaving[one], leaving[other] = leaving[other], leaving[one]
        self.answers(run, DOZEN, pairs, wanted=tuple(enumerate(leaving)))
        self.answers(run, DOZEN, pairs + pairs[::-1], wanted=DOZEN)

    def test_one_that_fails(self):
        for error, values, pair in [(NoGuest, {"guest": -1}, (-1, 12)),
                                    (NoGuest, {"guest": 12}, (3, 12)),
                                    (NoGuest, {"guest": 12}, (12, 12)),
                                    (NoGuest, {"guest": FAR}, (0, FAR)),
                                    (Apart, {"one": 5, "other": 5}, (5, 5))]:
            for at in [0, 50, 99]:
                pairs = many_pairs(99)
                pairs.insert(at, pair)
                with self.subTest(pair=pair, at=at):
                    self.refuses(error, values, run, DOZEN, pairs)

    def test_no_common_day(self):
        values = {"one": 2, "other": 0}
        self.refuses(Apart, values, run, TRIO, [(2, 0), (0, 1), (1, 0)])
        self.refuses(Apart, values, run, TRIO, [(0, 1), (1, 0), (2, 0), (0, 1)])
        self.refuses(Apart, values, run, TRIO, [(0, 1), (1, 0), (2, 0)])

    def test_first_that_fails(self):
        self.refuses(Apart, {"one": 1, "other": 1}, run, TRIO, [(0, 1), (1, 1), (5, 0)])
        self.refuses(NoGuest, {"guest": 5}, run, TRIO, [(0, 1), (5, 0), (1, 1)])
        self.refuses(NoGuest, {"guest": 0}, run, (), [(0, 0)])

    def test_lists(self):
        for pairs in forms([(0, 1), (2, 0)]):
            self.answers(run, TRIO, pairs, wanted=((1, 6), (2, 3), (4, 5)))
        for stays in forms(TRIO):
            self.answers(run, stays, ([0, 1], [2, 0]), wanted=((1, 6), (2, 3), (4, 5)))
            self.refuses(Apart, {"one": 0, "other": 2}, run, stays, ([0, 2],))

    def test_by_name(self):
        self.answers(run, stays=TRIO, pairs=[(0, 1)], wanted=((1, 5), (2, 3), (4, 6)))
        self.answers(run, pairs=([0, 1],), stays=[[1, 3], (2, 5)], wanted=((1, 5), (2, 3)))
        self.refuses(NoGuest, {"guest": 4}, run, pairs=[[4, -1]], stays=TRIO)

    def test_later_changes_have_no_effect(self):
        stays = [[1, 3], [2, 5], [4, 6]]
        got = run(stays, [])
        stays[0][1] = 99
        stays.pop()
        self.same(got, TRIO)


if __name__ == "__main__":
    unittest.main()
