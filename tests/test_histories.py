"""[7] and, for its functions, [1] (b), [2] and [3]."""

import itertools
import unittest

from stayswap.errors import Barred, NoGuest, OtherGuests
from stayswap.histories import after, history, is_history, mates_of
from tests.helper import (AWAY, CHAIN, DISTANT, DOZEN, FAR, LOTS, MIXED, NEVER, OTHER_VALUES, TRIO,
                          TOGETHER, Case, as_lists, forms, search, small_stays, stays_forms,
                          swapped)

GOAL = ((1, 6), (2, 3), (4, 5))


def known_mates(stays, guest):
    """The guests there on the day of arrival who are ahead, guest by guest."""
    day = stays[guest][0]
    found = []
    for mate, (arrival, leaving) in enumerate(stays):
        ahead = arrival < day or (arrival == day and mate < guest)
        if ahead and leaving >= day:
            found.append(mate)
    return found


def all_histories(stays):
    """All histories of stays with the stays to which they lead, newcomer by newcomer."""
    found = [((), stays)]
    for guest in sorted(range(len(stays)), key=lambda guest: stays[guest][0]):
        longer = []
        for entries, present in found:
            for mate in known_mates(present, guest):
                entry = (stays[guest][0], guest, mate)
                longer.append((entries + (entry,), swapped(present, guest, mate)))
        found += longer
    return found


class MatesOfTest(Case):

    def test_examples(self):
        self.same([mates_of(TRIO, 2), mates_of(TRIO, 1), mates_of(TRIO, 0)], [[1], [0], []])

    def test_one_guest(self):
        self.answers(mates_of, ((3, 3),), 0, wanted=[])
        self.answers(mates_of, ((FAR, FAR),), 0, wanted=[])

    def test_equal_arrivals(self):
        self.answers(mates_of, TOGETHER, 0, wanted=[])
        self.answers(mates_of, TOGETHER, 1, wanted=[0])
        self.answers(mates_of, TOGETHER, 3, wanted=[0, 1, 2])

    def test_last_and_first_day(self):
        self.answers(mates_of, ((1, 4), (1, 3), (4, 6)), 2, wanted=[0])
        self.answers(mates_of, ((4, 6), (1, 3), (1, 4)), 0, wanted=[2])
        self.answers(mates_of, ((4, 6), (1, 3), (1, 4)), 2, wanted=[1])

    def test_twelve_guests(self):
        for guest in range(12):
            self.answers(mates_of, DOZEN, guest, wanted=list(range(guest)))
            self.answers(mates_of, NEVER, guest, wanted=[])
            self.answers(mates_of, CHAIN, guest, wanted=list(range(guest))[-1:])
            self.answers(mates_of, MIXED, guest, wanted=known_mates(MIXED, guest))

    def test_great_days(self):
        self.answers(mates_of, DISTANT, 0, wanted=[1, 2])
        self.answers(mates_of, DISTANT, 4, wanted=[0, 1, 2])
        self.answers(mates_of, DISTANT, 2, wanted=[1, 3])
        self.answers(mates_of, DISTANT, 3, wanted=[1])

    def test_equally_many_in_all_stays_of_a_lot(self):
        for stays in LOTS:
            for other in search(stays):
                for guest in range(len(stays)):
                    self.same(mates_of(other, guest), known_mates(other, guest))
                    self.assertEqual(len(mates_of(other, guest)), len(mates_of(stays, guest)))

    def test_all_small_stays(self):
        for stays in small_stays(3, 4):
            for guest in range(len(stays)):
                self.same(mates_of(stays, guest), known_mates(stays, guest))

    def test_no_guest(self):
        for wrong in [-1, -3, -FAR, 3, 4, FAR, 10 ** 4000]:
            for stays in stays_forms(TRIO):
                self.refuses(NoGuest, {"guest": wrong}, mates_of, stays, wrong)
        self.refuses(NoGuest, {"guest": 0}, mates_of, (), 0)
        self.refuses(NoGuest, {"guest": 12}, mates_of, guest=12, stays=DOZEN)
        with self.assertRaises(LookupError):
            mates_of(TRIO, 3)

    def test_lists(self):
        for form in forms(TRIO):
            self.answers(mates_of, form, 2, wanted=[1])

    def test_by_name(self):
        self.answers(mates_of, stays=TRIO, guest=1, wanted=[0])
        self.answers(mates_of, guest=1, stays=as_lists(TRIO), wanted=[0])

    def test_own_list(self):
        self.own_list(mates_of, TRIO, 0)
        self.own_list(mates_of, TRIO, 2)
        self.own_list(mates_of, as_lists(TRIO), 2)


class HistoryTest(Case):

    def test_examples(self):
        self.same([history(TRIO, GOAL), history(TRIO, TRIO)], [((2, 1, 0), (4, 2, 0)), ()])

    def test_the_stays_themselves(self):
        for stays in LOTS + [NEVER, CHAIN, DOZEN, MIXED]:
            self.answers(history, stays, stays, wanted=())

    def check_all(self, stays):
        """To each stays of the lot leads one history, and history returns it."""
        every = all_histories(stays)
        self.assertEqual(sorted(reached for _, reached in every), sorted(search(stays)))
        for entries, reached in every:
            self.answers(history, stays, reached, wanted=entries)
            self.answers(is_history, stays, entries, wanted=True)
            self.answers(after, stays, entries, wanted=reached)

    def test_all_histories_of_small_lots(self):
        for stays in LOTS:
            self.check_all(stays)

    def test_all_histories_of_small_stays(self):
        for stays in small_stays(3, 4):
            self.check_all(stays)

    def test_from_all_stays_of_a_lot(self):
        for stays in LOTS[3:13]:
            for other in search(stays):
                self.check_all(other)

    def test_equal_arrivals(self):
        self.answers(history, TOGETHER, ((4, 5), (4, 4), (4, 7), (4, 9)),
                     wanted=((4, 1, 0), (4, 2, 1), (4, 3, 2)))
        self.answers(history, ((4, 9), (4, 7)), ((4, 7), (4, 9)), wanted=((4, 1, 0),))

    def test_order_of_arrival(self):
        self.answers(history, ((4, 6), (2, 5), (1, 3)), ((4, 5), (2, 3), (1, 6)),
                     wanted=((2, 1, 2), (4, 0, 2)))

    def test_great_days(self):
        self.answers(history, ((FAR, FAR + 1), (0, FAR)), ((FAR, FAR), (0, FAR + 1)),
                     wanted=((FAR, 0, 1),))

    def test_twelve_guests(self):
        moved = tuple((guest, 20 + (guest + 1) % 12) for guest in range(12))
        entries = history(DOZEN, moved)
        self.assertTrue(is_history(DOZEN, entries))
        self.same(after(DOZEN, entries), moved)
        self.same([guest for _, guest, _ in entries], list(range(1, 12)))
        other = ((0, 25),) + tuple((2 * guest, 2 * guest + 1) for guest in range(1, 12))
        wanted = tuple((2 * guest, guest, 0) for guest in range(1, 12))
        self.answers(history, CHAIN, other, wanted=wanted)
        self.answers(is_history, CHAIN, wanted, wanted=True)
        self.answers(after, CHAIN, wanted, wanted=other)

    def test_barred(self):
        self.refuses(Barred, {"reason": 1}, history, TRIO, ((1, 6), (1, 3), (4, 5)))
        self.refuses(Barred, {"reason": "days"}, history, TRIO, ((1, 3), (2, 5), (4, 7)))
        self.refuses(Barred, {"reason": 0}, history, other=((2, 3),), one=((3, 3),))
        with self.assertRaises(RuntimeError):
            history(AWAY, ((1, 2), (4, 7)))

    def test_other_guests(self):
        for one in stays_forms(TRIO):
            self.refuses(OtherGuests, {"many": 2}, history, one, AWAY)
            self.refuses(OtherGuests, {"many": 0}, history, one, ())
            self.refuses(OtherGuests, {"many": 12}, history, one, as_lists(DOZEN))
            self.refuses(OtherGuests, {"many": 2}, history, one, ((0, 1), (0, 2)))
        self.refuses(OtherGuests, {"many": 3}, history, (), TRIO)
        with self.assertRaises(ValueError):
            history(TRIO, AWAY)

    def test_lists(self):
        for one in forms(TRIO):
            for other in forms(GOAL):
                self.answers(history, one, other, wanted=((2, 1, 0), (4, 2, 0)))

    def test_by_name(self):
        self.answers(history, one=TRIO, other=GOAL, wanted=((2, 1, 0), (4, 2, 0)))
        self.answers(history, other=as_lists(GOAL), one=TRIO, wanted=((2, 1, 0), (4, 2, 0)))


class IsHistoryTest(Case):

    def yes(self, stays, value):
        self.answers(is_history, stays, value, wanted=True)

    def no(self, stays, value):
        self.answers(is_history, stays, value, wanted=False)

    def test_examples(self):
        self.same([is_history(TRIO, ((2, 1, 0), (4, 2, 0))), is_history(TRIO, ((4, 2, 0),))],
                  [True, False])

    def test_all_triples(self):
        # Every tuple of up to two triples of small integers, the wrong ones included.
        for stays in [TRIO, ((2, 3), (1, 2)), ((1, 2), (1, 1)), ((1, 4), (2, 5), (2, 3))]:
            histories = [entries for entries, _ in all_histories(stays)]
            every = list(itertools.product([1, 2, 4], range(-1, 4), range(-1, 4)))
            for many in range(3):
                for entries in itertools.product(every, repeat=many):
                    self.assertIs(is_history(stays, entries), entries in histories)

    def test_the_empty_history(self):
        for stays in LOTS + [NEVER, CHAIN, DOZEN, MIXED]:
            self.yes(stays, ())
            self.no(stays, [])

    def test_wrong_day(self):
        self.yes(TRIO, ((2, 1, 0),))
        for day in [1, 3, 0, -2, 4, FAR]:
            self.no(TRIO, ((day, 1, 0),))
        self.yes(((FAR, FAR + 1), (0, FAR)), ((FAR, 0, 1),))
        self.no(((FAR, FAR + 1), (0, FAR)), ((FAR - 1, 0, 1),))

    def test_out_of_order(self):
        stays = ((1, 3), (2, 5), (2, 6))
        self.yes(stays, ((2, 1, 0), (2, 2, 0)))
        self.no(stays, ((2, 2, 0), (2, 1, 0)))
        self.no(DOZEN, ((5, 5, 0), (4, 4, 0)))
        self.yes(DOZEN, ((4, 4, 0), (5, 5, 0)))

    def test_the_order_of_arrival_is_not_by_numbers(self):
        stays = ((5, 9), (2, 6), (1, 5))
        self.yes(stays, ((2, 1, 2), (5, 0, 1)))
        self.yes(stays, ((2, 1, 2), (5, 0, 2)))
        self.no(stays, ((5, 0, 1), (2, 1, 2)))

    def test_twice(self):
        self.no(TRIO, ((2, 1, 0), (2, 1, 0)))
        self.no(TRIO, ((2, 1, 0), (4, 2, 0), (4, 2, 0)))
        self.no(DOZEN, ((4, 4, 0), (4, 4, 1)))

    def test_mates(self):
        # Behind in the order, the guest, gone, no guest.
        self.no(TRIO, ((2, 1, 2),))
        self.no(TRIO, ((2, 1, 1),))
        self.no(TRIO, ((1, 0, 1),))
        self.no(TRIO, ((4, 2, 0),))
        for wrong in [-1, -2, -3, 3, 4, FAR, -FAR]:
            self.no(TRIO, ((4, 2, wrong),))
            self.no(TRIO, ((4, wrong, 1),))
            self.no(TRIO, ((2, 1, 0), (4, 2, wrong)))
        self.no(TOGETHER, ((4, 0, 1),))
        self.no(TOGETHER, ((4, 2, 3),))
        self.yes(TOGETHER, ((4, 3, 2),))

    def test_a_mate_who_left_early_after_an_exchange(self):
        self.yes(TRIO, ((4, 2, 1),))
        self.no(TRIO, ((2, 1, 0), (4, 2, 1)))
        self.yes(TRIO, ((2, 1, 0), (4, 2, 0)))

    def test_true_and_false_are_no_integers(self):
        stays = ((1, 5), (1, 3))
        self.yes(stays, ((1, 1, 0),))
        for value in [((True, 1, 0),), ((1, True, 0),), ((1, 1, False),), ((True, True, False),)]:
            self.no(stays, value)
        self.no(TRIO, ((2, True, 0),))
        self.no(TRIO, ((2, 1, 0), (4, 2, False)))

    def test_lists_are_no_tuples(self):
        right = ((2, 1, 0), (4, 2, 0))
        for form in forms(right):
            self.same(is_history(TRIO, form), form == right)
        for stays in forms(TRIO):
            self.yes(stays, right)
            self.no(stays, list(right))
            self.no(stays, ((4, 2, 0),))

    def test_other_values(self):
        for value in OTHER_VALUES:
            with self.subTest(value=value):
                if value != ():
                    self.no(((1, 2), (2, 3), (1, 3)), value)
                    self.no((), value)

    def test_a_wrong_item_behind(self):
        for value in OTHER_VALUES:
            if isinstance(value, tuple) and value != ((2, 1, 0),):
                self.no(((1, 2), (2, 3)), ((2, 1, 0),) + value)

    def test_great_values(self):
        self.no(TRIO, ((2, 1, 0),) * 3000)
        self.no(TRIO, ((2, 1, 0), (4, 2, 0)) + (None,) * 3000)
        self.no(TRIO, (tuple(range(3000)),))
        self.no(TRIO, "210" * 3000)
        self.no(TRIO, ((10 ** 4000, 1, 0),))

    def test_by_name(self):
        self.answers(is_history, stays=TRIO, value=((2, 1, 0),), wanted=True)
        self.answers(is_history, value=None, stays=as_lists(TRIO), wanted=False)


class AfterTest(Case):

    def test_example(self):
        self.same(after(TRIO, ((4, 2, 1),)), ((1, 3), (2, 6), (4, 5)))

    def test_the_empty_history(self):
        for stays in LOTS + [NEVER, CHAIN, DOZEN, MIXED]:
            for form in stays_forms(stays):
                self.answers(after, form, (), wanted=stays)
                self.answers(after, form, [], wanted=stays)

    def test_entries_in_their_order(self):
        self.answers(after, TRIO, ((2, 1, 0), (4, 2, 0)), wanted=GOAL)
        self.answers(after, ((4, 6), (2, 5), (1, 3)), ((2, 1, 2), (4, 0, 2)),
                     wanted=((4, 5), (2, 3), (1, 6)))

    def test_lists(self):
        for entries in forms(((2, 1, 0), (4, 2, 0))):
            self.answers(after, TRIO, entries, wanted=GOAL)
            self.answers(after, [[1, 3], (2, 5), [4, 6]], entries, wanted=GOAL)
        for stays in forms(TRIO):
            self.answers(after, stays, ([4, 2, 1],), wanted=((1, 3), (2, 6), (4, 5)))

    def test_by_name(self):
        self.answers(after, stays=TRIO, history=((4, 2, 1),), wanted=((1, 3), (2, 6), (4, 5)))
        self.answers(after, history=[[4, 2, 1]], stays=as_lists(TRIO),
                     wanted=((1, 3), (2, 6), (4, 5)))

    def test_later_changes_have_no_effect(self):
        stays = [[1, 3], [2, 5], [4, 6]]
        got = after(stays, [])
        stays[2][1] = 99
        stays.pop()
        self.same(got, TRIO)


if __name__ == "__main__":
    unittest.main()
