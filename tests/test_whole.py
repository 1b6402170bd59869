"""[1] (a) to (f), and what [2] and [6] say of the whole program."""

import itertools
import unittest

from stayswap.chances import leaving_chances, mean_nights, meeting_chance
from stayswap.counting import (first_stays, lot_many, mean_distance, number_of, options, spheres,
                               stays_at)
from stayswap.desk import answers
from stayswap.errors import OtherGuests
from stayswap.exchanging import exchanges, run
from stayswap.histories import after, history, is_history
from stayswap.hotel import Hotel
from stayswap.leading import (bar, distance, is_way, leads, nearer, rings, shortest)
from stayswap.lengths import (crossing_counts, crossings, first_out, last_out, meetings,
                              square_range, squares)
from stayswap.small import all_stays, ways_many
from stayswap.stays import is_stays, nights
from stayswap.texts import pairs_in, pairs_text, stays_in, stays_text, wish_in, wish_text
from stayswap.wishes import meets, nearest, wish_at, wish_many
from tests.helper import (AWAY, CHAIN, DOZEN, FAR, LATE_288, LOT_288, LOTS, MIXED, NEVER, TRIO,
                          TOGETHER, Case, as_lists, ratio, search, stays_forms)
from tests.model import ring_distance

GREAT = [NEVER, CHAIN, DOZEN, MIXED]
TWO_STAYS = [leads, bar, rings, distance, nearer, shortest, history, number_of, ways_many]


class OtherGuestsTest(Case):

    def test_before_any_other_error(self):
        # With no, other, and the same arrivals and days, small lots and great ones.
        some = [(), ((3, 3),), AWAY, TRIO, TOGETHER, DOZEN[:11], DOZEN, DOZEN + ((50, 60),), MIXED]
        for one, other in itertools.product(some, repeat=2):
            if len(one) == len(other):
                continue
            values = {"many": len(other)}
            for form in (other, as_lists(other)):
                for call in TWO_STAYS:
                    self.refuses(OtherGuests, values, call, one, form)
                for value in ([], None, [(0, 9)]):
                    self.refuses(OtherGuests, values, is_way, one, form, value)
                self.refuses(OtherGuests, values, Hotel(one).go, form)

    def test_by_name(self):
        for call in TWO_STAYS[:-3] + [ways_many]:
            self.refuses(OtherGuests, {"many": 2}, call, other=AWAY, one=TRIO)
        self.refuses(OtherGuests, {"many": 2}, history, other=AWAY, one=TRIO)
        self.refuses(OtherGuests, {"many": 2}, number_of, other=AWAY, stays=TRIO)
        self.refuses(OtherGuests, {"many": 2}, Hotel(TRIO).go, goal=AWAY)


class GuaranteesTest(Case):

    def test_a_as_few_exchanges_as_if_nothing_were_forbidden(self):
        for stays in LOTS:
            for other, far in search(stays).items():
                self.same([leads(stays, other), distance(stays, other)], [True, far])
                self.same([ring_distance(stays, other), len(shortest(stays, other))], [far, far])
        for stays in GREAT:
            for other in (first_out(stays), last_out(stays)):
                self.same(distance(stays, other), ring_distance(stays, other))
                self.same(run(stays, shortest(stays, other)), other)

    def test_b_exactly_one_history(self):
        for stays in LOTS[:10]:
            reached = [after(stays, history(stays, other)) for other in search(stays)]
            self.same(reached, list(search(stays)))
            self.assertTrue(all(is_history(stays, history(stays, other))
                                for other in search(stays)))

    def test_c_a_product_and_the_same_from_all(self):
        for stays in LOTS + [LOT_288]:
            found = all_stays(stays)
            self.same(len(found), lot_many(stays))
            for number, other in enumerate(found):
                self.same([options(other), spheres(other)], [options(stays), spheres(stays)])
                self.same([number_of(stays, other), stays_at(other, number)], [number, other])
                self.same(number_of(other, stays), found.index(stays))
            far = [distance(stays, other) for other in found]
            self.same(spheres(stays), [far.count(k) for k in range(max(far) + 1)])
            self.same(mean_distance(stays), ratio(sum(far), len(far)))

    def test_d_exact_chances_and_wishes(self):
        for stays in LOTS:
            found = all_stays(stays)
            for guest in range(len(stays)):
                for day, chance in leaving_chances(stays, guest):
                    wish = (None,) * guest + (day,) + (None,) * (len(stays) - guest - 1)
                    meeting = [other for other in found if meets(other, wish)]
                    self.same(chance, ratio(len(meeting), len(found)))
                    self.same(wish_many(stays, wish), len(meeting))
                    self.same([wish_at(stays, wish, k) for k in range(len(meeting))], meeting)
                total = sum(nights(other)[guest] for other in found)
                self.same(mean_nights(stays, guest), ratio(total, len(found)))
            for one, other in itertools.combinations(range(len(stays)), 2):
                together = [(one, other) in exchanges(reached) for reached in found]
                self.same(meeting_chance(stays, one, other), ratio(sum(together), len(found)))

    def test_e_alike_and_crossing(self):
        for stays in LOTS + [LATE_288]:
            found = all_stays(stays)
            sums = [squares(other) for other in found]
            self.same(square_range(stays), (min(sums), max(sums)))
            crossing = [crossings(other) for other in found]
            self.same(crossing_counts(stays),
                      [crossing.count(k) for k in range(meetings(stays) + 1)])

    def test_f_as_a_new_hotel_in_the_same_state(self):
        for stays in LOTS:
            hotel = Hotel(stays)
            for other in all_stays(stays)[:24]:
                hotel.go(other)
                with self.assertRaises(LookupError):
                    hotel.do([("go", stays), ("strike", len(stays))])
                with self.assertRaises(LookupError):
                    hotel.do([("go", stays), ("strike", len(stays))], whole=False)
                self.same(hotel.undo(), True)
                new = Hotel(other)
                self.assertEqual(hotel, new)
                self.same([repr(hotel), hotel.lot(), hotel.exchanges(), hotel.on(4)],
                          [repr(new), new.lot(), new.exchanges(), new.on(4)])
                deeds = [("come", 3, FAR + 9), ("strike", 0)]
                self.same(hotel.twin().do(deeds), new.do(deeds))


class AgainTest(Case):
    """What is returned may be passed in again."""

    def test_stays(self):
        for stays in LOTS + GREAT:
            for form in stays_forms(stays):
                for found in (run(form, []), stays_at(form, 0), first_out(form), last_out(form),
                              Hotel(form).stays(), stays_in(stays_text(form)),
                              first_stays([stay[0] for stay in form], [stay[1] for stay in form])):
                    self.assertTrue(is_stays(found))
                    self.assertTrue(leads(form, found))
                    self.same(Hotel(found).go(stays), distance(found, stays))
                    self.same(stays_in(stays_text(found)), found)

    def test_exchanges(self):
        for stays in LOTS + GREAT:
            other = last_out(stays)
            pairs = shortest(stays, other)
            self.assertTrue(is_way(stays, other, pairs))
            self.same(pairs_in(pairs_text(pairs)), pairs)
            hotel = Hotel(stays)
            self.same([hotel.run(pairs), hotel.stays()], [len(pairs), other])
            hotel.run(exchanges(other)[:1])
            self.same(after(stays, history(stays, hotel.stays())), hotel.stays())

    def test_wishes(self):
        for stays in [TRIO, DOZEN, MIXED, CHAIN]:
            days = [day for _, day in last_out(stays)]
            wish = wish_in(wish_text([None] * 3 + days[3:]))
            self.assertTrue(meets(nearest(stays, wish), wish))
            self.assertTrue(meets(wish_at(stays, wish, wish_many(stays, wish) - 1), wish))

    def test_texts_at_the_desk(self):
        for stays in LOTS + GREAT:
            goal = last_out(stays)
            lines = [stays_text(stays), "go " + stays_text(goal), "show", "undo",
                     "run " + pairs_text(shortest(stays, goal)), "show"]
            far = str(distance(stays, goal))
            self.same(answers("\n".join(lines)),
                      [far, stays_text(goal), "done", far, stays_text(goal)])
            self.same(stays_in(answers("\n".join(lines))[-1]), goal)


if __name__ == "__main__":
    unittest.main()
