"""[13], [14] and, for them, [1] (f), [2], [3] and [6]."""

import itertools
import math
import random
import unittest

from stayswap.counting import lot_many, stays_at
from stayswap.errors import (Apart, BadDeed, Barred, Early, Full, NoDeed, NoGuest, OtherGuests,
                             Taken)
from stayswap.exchanging import exchanges
from stayswap.hotel import Hotel
from stayswap.leading import distance
from stayswap.stays import guests_on
from tests.helper import (AWAY, CHAIN, DISTANT, DOZEN, FAR, LOTS, MIXED, NEVER, TRIO, TOGETHER,
                          Case, as_lists, forms, mixed, search, stays_forms, together)
from tests.model import DEEDS, Model, ring_distance

BACK = ((1, 6), (2, 3), (4, 5))
# Thirteen guests and forty.
THIRTEEN = DOZEN + ((40, 50),)
FORTY = tuple((guest, 100 + guest) for guest in range(40))
GOOD = [("exchange", 0, 1), ("prolong", 1, 4), ("strike", 2)]

# For BadDeed: items that are no deeds at all, and deeds with a wrong number of arguments.
NO_DEEDS = [
    None, True, False, 0, 1, -1, "", "undo", "exchange", "strike", [], ["exchange", 0, 1],
    ["strike", 0], [("strike", 0)], (), ((),), (None,), (True,), (0,), (1, 0, 1), ([],), ([], 0),
    (["exchange"], 0, 1), (("exchange",), 0, 1), (("exchange", 0, 1),), (None, 0, 1),
    (["strike"], 0), (True, 0), (b"strike", 0), ({}, 0), ({"strike": 1}, 0), (Hotel(), 0),
    ("",), ("undo",), ("do", []), ("stays",), ("lot",), ("twin",), ("log",), ("as_of", 0),
    ("on", 3), ("deeds",), ("exchanges",), ("__init__",), ("Exchange", 0, 1), ("exchange ", 0, 1),
    (" strike", 0), ("strike\n", 0), ("swap", 0, 1), ("exchang", 0, 1), ("_states", 0), ("_log",),
    ("exchange",), ("exchange", 0), ("exchange", 0, 1, 2), ("exchange", (0, 1)), ("run",),
    ("run", [(0, 1)], []), ("go",), ("go", TRIO, TRIO), ("go", *TRIO), ("come",), ("come", 3),
    ("come", 3, 8, 9), ("come", (3, 8)), ("strike",), ("strike", 0, 1), ("prolong",),
    ("prolong", 0), ("prolong", 0, 8, 9), ("prolong", (0, 8)),
]


def state(hotel):
    """All that a hotel shows of itself."""
    earlier = [hotel.as_of(many).stays() for many in range(hotel.deeds() + 1)]
    return repr((hotel.stays(), hotel.deeds(), earlier, hotel.log(), hotel.lot(), len(hotel),
                 hotel.exchanges(), repr(hotel)))


class HotelCase(Case):

    def stands(self, error, values, hotel, name, *args, **named):
        """The deed raises this error and the hotel stays as it is."""
        before = state(hotel)
        self.refuses(error, values, getattr(hotel, name), *args, **named)
        self.assertEqual(state(hotel), before)

    def does(self, hotel, name, *args, wanted, stays, **named):
        """The deed returns what is wanted, leads to these stays, and is undone as one."""
        before, many = hotel.stays(), hotel.deeds()
        given = repr((args, named))
        self.same(getattr(hotel, name)(*args, **named), wanted)
        self.assertEqual(repr((args, named)), given)
        self.same(hotel.stays(), stays)
        self.same(hotel.deeds(), many + 1)
        self.same(hotel.as_of(many).stays(), before)
        self.same(hotel.undo(), True)
        self.same([hotel.stays(), hotel.deeds()], [before, many])
        self.same(getattr(hotel, name)(*args, **named), wanted)
        self.same(hotel.stays(), stays)


class CreationTest(HotelCase):

    def test_nothing(self):
        for hotel in (Hotel(), Hotel(()), Hotel([]), Hotel(stays=()), Hotel(stays=[])):
            self.same([hotel.stays(), len(hotel), hotel.deeds(), hotel.log()], [(), 0, 0, []])

    def test_forms(self):
        for form in forms(TRIO):
            self.same(Hotel(form).stays(), TRIO)
            self.same(Hotel(stays=form).stays(), TRIO)
        for stays in LOTS + [NEVER, CHAIN, DOZEN, MIXED, THIRTEEN, FORTY]:
            for form in stays_forms(stays):
                before = repr(form)
                hotel = Hotel(form)
                self.same([hotel.stays(), hotel.deeds(), hotel.log()], [stays, 0, []])
                self.same(len(hotel), len(stays))
                self.assertEqual(repr(form), before)

    def test_copies_its_argument(self):
        stays = as_lists(TRIO)
        hotel = Hotel(stays)
        stays[0][1] = 9
        stays.append([7, 8])
        self.same(hotel.stays(), TRIO)
        self.same(hotel.twin().stays(), TRIO)
        stays.clear()
        self.assertEqual(hotel, Hotel(TRIO))
        hotel.strike(0)
        self.same(stays, [])

    def test_hotels_are_apart(self):
        one, other = Hotel(TRIO), Hotel(TRIO)
        one.do([("strike", 0)])
        self.same([other.stays(), other.deeds(), other.log()], [TRIO, 0, []])
        one, other = Hotel(), Hotel()
        one.do([("come", 1, 2)])
        self.same([other.stays(), other.deeds(), other.log()], [(), 0, []])


class ExchangeTest(HotelCase):

    def test_examples(self):
        self.same([Hotel(TRIO).exchange(1, 0), Hotel(TRIO).run([(0, 1), (2, 0)]),
                   Hotel(TRIO).go(BACK)], [(3, 5), 2, 2])

    def test_exchange(self):
        self.does(Hotel(TRIO), "exchange", 0, 1, wanted=(5, 3), stays=((1, 5), (2, 3), (4, 6)))
        self.does(Hotel(as_lists(TRIO)), "exchange", 2, 1, wanted=(5, 6),
                  stays=((1, 3), (2, 6), (4, 5)))
        self.does(Hotel(TRIO), "exchange", other=1, one=2, wanted=(5, 6),
                  stays=((1, 3), (2, 6), (4, 5)))
        self.does(Hotel(TOGETHER), "exchange", 2, 0, wanted=(9, 4),
                  stays=((4, 4), (4, 5), (4, 9), (4, 7)))
        self.does(Hotel(DISTANT), "exchange", 0, 4, wanted=(FAR + 2, FAR + 4),
                  stays=((FAR, FAR + 2),) + DISTANT[1:4] + ((FAR, FAR + 4),))
        self.does(Hotel(FORTY), "exchange", 39, 0, wanted=(100, 139),
                  stays=((0, 139),) + FORTY[1:39] + ((39, 100),))

    def test_exchange_of_all_pairs(self):
        for stays in LOTS + [CHAIN, NEVER, MIXED]:
            for one, other in itertools.product(range(-1, len(stays) + 1), repeat=2):
                changed, result = DEEDS["exchange"](stays, one, other)
                if changed is None:
                    self.stands(*result, Hotel(stays), "exchange", one, other)
                else:
                    self.does(Hotel(stays), "exchange", one, other, wanted=result, stays=changed)

    def test_errors_of_exchange(self):
        hotel = Hotel(TRIO)
        for wrong in (-1, -3, 3, FAR, -FAR, 10 ** 4000):
            self.stands(NoGuest, {"guest": wrong}, hotel, "exchange", wrong, 0)
            self.stands(NoGuest, {"guest": wrong}, hotel, "exchange", 0, wrong)
            self.stands(NoGuest, {"guest": wrong}, hotel, "exchange", wrong, wrong)
        self.stands(NoGuest, {"guest": -1}, hotel, "exchange", -1, 3)
        self.stands(NoGuest, {"guest": 3}, hotel, "exchange", 3, -1)
        self.stands(NoGuest, {"guest": 7}, hotel, "exchange", other=8, one=7)
        self.stands(Apart, {"one": 0, "other": 2}, hotel, "exchange", 0, 2)
        self.stands(Apart, {"one": 2, "other": 0}, hotel, "exchange", 2, 0)
        self.stands(Apart, {"one": 1, "other": 1}, hotel, "exchange", 1, 1)
        self.stands(NoGuest, {"guest": 0}, Hotel(), "exchange", 0, 0)
        self.assertTrue(issubclass(NoGuest, LookupError) and issubclass(Apart, RuntimeError))

    def test_run(self):
        self.does(Hotel(TRIO), "run", [(0, 1), (2, 0)], wanted=2, stays=BACK)
        self.does(Hotel(TRIO), "run", pairs=[(0, 1), (0, 1)], wanted=2, stays=TRIO)
        self.does(Hotel(TRIO), "run", [], wanted=0, stays=TRIO)
        self.does(Hotel(), "run", (), wanted=0, stays=())
        self.does(Hotel(TRIO), "run", [(1, 2)] * 99, wanted=99, stays=((1, 3), (2, 6), (4, 5)))
        for form in forms([(0, 1), (2, 0)]):
            self.does(Hotel(mixed(TRIO)), "run", form, wanted=2, stays=BACK)

    def test_run_that_fails(self):
        hotel = Hotel(TRIO)
        hotel.exchange(0, 1)
        for good in ([], [(0, 1)], [(0, 1), (1, 2)], [(0, 2), (0, 2)]):
            for more in ([], [(0, 1)], [(7, 7), (0, 0)]):
                for bad, values in [((0, 3), {"guest": 3}), ((-1, 5), {"guest": -1}),
                                    ((3, -1), {"guest": 3}), ((FAR, 0), {"guest": FAR})]:
                    self.stands(NoGuest, values, hotel, "run", good + [bad] + more)
                self.stands(Apart, {"one": 1, "other": 1}, hotel, "run", good + [(1, 1)] + more)
        self.stands(Apart, {"one": 2, "other": 0}, hotel, "run", [(0, 1), [2, 0], (5, 5)])
        self.same([hotel.deeds(), hotel.stays()], [1, ((1, 5), (2, 3), (4, 6))])

    def test_go(self):
        self.does(Hotel(TRIO), "go", BACK, wanted=2, stays=BACK)
        self.does(Hotel(TRIO), "go", goal=TRIO, wanted=0, stays=TRIO)
        self.does(Hotel(), "go", (), wanted=0, stays=())
        for form in forms(BACK):
            self.does(Hotel(as_lists(TRIO)), "go", form, wanted=2, stays=BACK)
        for stays in LOTS:
            for goal, far in search(stays).items():
                self.does(Hotel(stays), "go", goal, wanted=far, stays=goal)
        for stays in (DOZEN, CHAIN, MIXED):
            goal = stays_at(stays, lot_many(stays) - 1)
            self.does(Hotel(stays), "go", as_lists(goal), wanted=ring_distance(stays, goal),
                      stays=goal)

    def test_go_copies_the_goal(self):
        goal = as_lists(BACK)
        hotel = Hotel(TRIO)
        hotel.go(goal)
        goal[0][1] = 99
        goal.pop()
        self.same(hotel.stays(), BACK)
        self.same(hotel.as_of(1).stays(), BACK)

    def test_errors_of_go(self):
        hotel = Hotel(TRIO)
        hotel.exchange(0, 1)
        for goal in [(), ((1, 3),), AWAY, TOGETHER, DOZEN, ((9, 9),) * 0, FORTY]:
            for form in stays_forms(goal):
                self.stands(OtherGuests, {"many": len(goal)}, hotel, "go", form)
        self.stands(OtherGuests, {"many": 1}, Hotel(), "go", ((3, 3),))
        self.stands(Barred, {"reason": 1}, hotel, "go", ((1, 6), (1, 3), (4, 5)))
        self.stands(Barred, {"reason": 0}, hotel, "go", ((0, 6), (1, 3), (5, 7)))
        self.stands(Barred, {"reason": 2}, hotel, "go", as_lists(((1, 6), (2, 3), (5, 5))))
        self.stands(Barred, {"reason": "days"}, hotel, "go", goal=((1, 3), (2, 5), (4, 7)))
        self.assertTrue(issubclass(OtherGuests, ValueError) and issubclass(Barred, RuntimeError))


class ComeTest(HotelCase):

    def test_examples(self):
        self.same([Hotel(TRIO).come(2, 9), Hotel(TRIO).strike(1), Hotel(TRIO).prolong(0, 8)],
                  [4, (2, 5), 3])
        self.refuses(Taken, {"day": 5}, Hotel(TRIO).prolong, 0, 5)
        self.refuses(Early, {"arrival": 7}, Hotel(TRIO).come, 7, 4)

    def test_come(self):
        self.does(Hotel(), "come", 0, 0, wanted=1, stays=((0, 0),))
        self.does(Hotel(TRIO), "come", 2, 9, wanted=4, stays=TRIO + ((2, 9),))
        self.does(Hotel(as_lists(TRIO)), "come", 0, 2, wanted=4, stays=TRIO + ((0, 2),))
        self.does(Hotel(TRIO), "come", leaving=FAR, arrival=FAR, wanted=4,
                  stays=TRIO + ((FAR, FAR),))
        self.does(Hotel(DOZEN[:11]), "come", 0, 10 ** 50, wanted=12,
                  stays=DOZEN[:11] + ((0, 10 ** 50),))

    def test_early(self):
        hotel = Hotel(TRIO)
        hotel.exchange(0, 1)
        self.stands(Early, {"arrival": 7}, hotel, "come", 7, 4)
        self.stands(Early, {"arrival": 1}, hotel, "come", leaving=0, arrival=1)
        self.stands(Early, {"arrival": FAR}, hotel, "come", FAR, FAR - 1)

    def test_taken(self):
        hotel = Hotel(TRIO)
        hotel.exchange(0, 1)
        for day in (3, 5, 6):
            self.stands(Taken, {"day": day}, hotel, "come", 0, day)
            self.stands(Taken, {"day": day}, hotel, "come", day, day)
        self.stands(Taken, {"day": FAR + 1}, Hotel(DISTANT), "come", 0, FAR + 1)

    def test_full(self):
        for stays in (DOZEN, NEVER, MIXED, THIRTEEN, FORTY):
            hotel = Hotel(stays)
            self.stands(Full, {"many": 12}, hotel, "come", 0, 1000)
            self.stands(Full, {"many": 12}, hotel, "come", leaving=FAR + 1000, arrival=FAR)
            # Early and Taken come ahead of Full, and Early ahead of Taken.
            self.stands(Early, {"arrival": 8 * FAR}, hotel, "come", 8 * FAR, 3)
            self.stands(Early, {"arrival": 8 * FAR}, hotel, "come", 8 * FAR, stays[0][1])
            self.stands(Taken, {"day": stays[11][1]}, hotel, "come", 0, stays[11][1])
        self.stands(Early, {"arrival": 6}, Hotel(TRIO), "come", 6, 5)
        hotel = Hotel(THIRTEEN)
        hotel.strike(12)
        self.stands(Full, {"many": 12}, hotel, "come", 0, 1000)
        hotel.strike(3)
        self.does(hotel, "come", 0, 1000, wanted=12, stays=DOZEN[:3] + DOZEN[4:] + ((0, 1000),))
        self.stands(Full, {"many": 12}, hotel, "come", 0, 1001)
        self.assertTrue(issubclass(Full, OverflowError) and issubclass(Early, ValueError)
                        and issubclass(Taken, ValueError))

    def test_fills_up(self):
        hotel = Hotel()
        for many in range(12):
            self.same(hotel.come(many, 100 - many), many + 1)
        self.stands(Full, {"many": 12}, hotel, "come", 0, 0)
        self.same(hotel.deeds(), 12)

    def test_a_day_is_free_again(self):
        hotel = Hotel(TRIO)
        hotel.prolong(0, 8)
        self.does(hotel, "come", 2, 3, wanted=4, stays=((1, 8), (2, 5), (4, 6), (2, 3)))
        hotel.strike(1)
        self.does(hotel, "come", 5, 5, wanted=4, stays=((1, 8), (4, 6), (2, 3), (5, 5)))


class StrikeTest(HotelCase):

    def test_strike(self):
        self.does(Hotel(TRIO), "strike", 0, wanted=(1, 3), stays=((2, 5), (4, 6)))
        self.does(Hotel(as_lists(TRIO)), "strike", guest=1, wanted=(2, 5), stays=((1, 3), (4, 6)))
        self.does(Hotel(TRIO), "strike", 2, wanted=(4, 6), stays=((1, 3), (2, 5)))
        self.does(Hotel([[0, FAR]]), "strike", 0, wanted=(0, FAR), stays=())
        self.does(Hotel(FORTY), "strike", 39, wanted=(39, 139), stays=FORTY[:39])

    def test_errors_of_strike(self):
        for stays in (TRIO, (), FORTY):
            hotel = Hotel(stays)
            for wrong in (-1, -len(stays) - 1, len(stays), FAR, -FAR, 10 ** 4000):
                self.stands(NoGuest, {"guest": wrong}, hotel, "strike", wrong)
                self.stands(NoGuest, {"guest": wrong}, hotel, "strike", guest=wrong)

    def test_until_nobody_is_left(self):
        hotel = Hotel(DOZEN)
        for guest in range(12):
            self.same(hotel.strike(0), DOZEN[guest])
        self.stands(NoGuest, {"guest": 0}, hotel, "strike", 0)
        self.same(len(hotel), 0)


class ProlongTest(HotelCase):

    def test_prolong(self):
        self.does(Hotel(TRIO), "prolong", 0, 8, wanted=3, stays=((1, 8), (2, 5), (4, 6)))
        self.does(Hotel(as_lists(TRIO)), "prolong", 2, 4, wanted=6, stays=((1, 3), (2, 5), (4, 4)))
        self.does(Hotel(TRIO), "prolong", day=2, guest=1, wanted=5, stays=((1, 3), (2, 2), (4, 6)))
        self.does(Hotel(TRIO), "prolong", 1, 5, wanted=5, stays=TRIO)
        self.does(Hotel([[0, 0]]), "prolong", 0, FAR, wanted=0, stays=((0, FAR),))
        self.does(Hotel([[0, FAR]]), "prolong", 0, 0, wanted=FAR, stays=((0, 0),))
        self.does(Hotel(FORTY), "prolong", 39, 39, wanted=139, stays=FORTY[:39] + ((39, 39),))

    def test_errors_of_prolong(self):
        hotel = Hotel(TRIO)
        hotel.exchange(0, 1)
        for wrong in (-1, -3, 3, FAR, 10 ** 4000):
            for day in (0, 3, 6, 9):
                self.stands(NoGuest, {"guest": wrong}, hotel, "prolong", wrong, day)
        self.stands(NoGuest, {"guest": 0}, Hotel(), "prolong", 0, 0)
        self.stands(Early, {"arrival": 1}, hotel, "prolong", 0, 0)
        self.stands(Early, {"arrival": 4}, hotel, "prolong", day=1, guest=2)
        self.stands(Early, {"arrival": FAR}, Hotel(DISTANT), "prolong", 0, FAR - 1)
        # Early comes ahead of Taken: guest 1 leaves on day 3.
        self.stands(Early, {"arrival": 4}, hotel, "prolong", 2, 3)
        self.stands(Taken, {"day": 3}, hotel, "prolong", 0, 3)
        self.stands(Taken, {"day": 6}, hotel, "prolong", guest=1, day=6)
        self.stands(Taken, {"day": 5}, hotel, "prolong", 2, 5)
        self.stands(Taken, {"day": 4}, Hotel(TOGETHER), "prolong", 0, 4)


class UndoTest(HotelCase):

    def test_nothing_to_undo(self):
        for stays in ((), TRIO, THIRTEEN):
            hotel = Hotel(stays)
            for _ in range(3):
                self.same(hotel.undo(), False)
                self.same([hotel.stays(), hotel.deeds(), hotel.log()], [stays, 0, []])

    def test_each_kind_and_back(self):
        hotel = Hotel(TRIO)
        states = [TRIO]
        for name, *given in [("exchange", 0, 1), ("run", [(0, 1), (1, 2)]), ("run", []),
                             ("come", 0, 9), ("go", TRIO[:2] + ((4, 9), (0, 6))),
                             ("prolong", 3, 8), ("prolong", 3, 8), ("strike", 1), ("strike", 0),
                             ("go", ((4, 9), (0, 8)))]:
            changed, result = DEEDS[name](states[-1], *given)
            self.assertIsNotNone(changed)
            self.same(getattr(hotel, name)(*given), result)
            states.append(changed)
            self.same(hotel.stays(), changed)
        self.same(hotel.deeds(), 10)
        while len(states) > 1:
            states.pop()
            self.same(hotel.undo(), True)
            self.same([hotel.stays(), hotel.deeds()], [states[-1], len(states) - 1])
        self.same(hotel.undo(), False)
        self.same(hotel.stays(), TRIO)

    def test_deeds_that_changed_nothing_are_undone(self):
        hotel = Hotel(TRIO)
        hotel.run([])
        hotel.go(TRIO)
        hotel.prolong(1, 5)
        hotel.run([(0, 1), (1, 0)])
        self.same([hotel.deeds(), hotel.stays()], [4, TRIO])
        self.same([hotel.undo() for _ in range(6)], [True] * 4 + [False] * 2)

    def test_deeds_that_raised_errors_are_not(self):
        hotel = Hotel(TRIO)
        hotel.exchange(0, 1)
        for name, *given in [("exchange", 0, 0), ("run", [(0, 1), (9, 9)]), ("go", ()),
                             ("come", 0, 3), ("strike", 3), ("prolong", 0, 0), ("as_of", 2)]:
            with self.assertRaises((LookupError, RuntimeError, ValueError)):
                getattr(hotel, name)(*given)
        self.same(hotel.deeds(), 1)
        self.same([hotel.undo(), hotel.stays(), hotel.undo()], [True, TRIO, False])

    def test_sixty_deeds(self):
        hotel = Hotel(TRIO)
        for _ in range(70):
            hotel.exchange(0, 1)
        self.same(hotel.deeds(), 70)
        self.same([hotel.undo() for _ in range(71)], [True] * 70 + [False])

    def test_another_way_after_undo(self):
        hotel = Hotel(TRIO)
        hotel.strike(0)
        hotel.undo()
        hotel.come(0, 9)
        self.same([hotel.stays(), hotel.deeds()], [TRIO + ((0, 9),), 1])
        self.same(hotel.as_of(0).stays(), TRIO)


class DoTest(HotelCase):

    def test_examples(self):
        self.same(Hotel(TRIO).do(GOOD), [(5, 3), 3, (4, 6)])
        self.refuses(BadDeed, {"at": 1}, Hotel(TRIO).do, [("exchange", 0, 1), ("strike",)])

    def test_all_kinds(self):
        deeds = [("exchange", 1, 0), ("run", [(0, 1), [1, 2]]), ("go", as_lists(BACK)),
                 ("come", 3, 9), ("strike", 0), ("prolong", 0, 8)]
        for form in (deeds, tuple(deeds)):
            for named in ({}, {"whole": True}, {"whole": False}):
                hotel = Hotel(TRIO)
                before = repr(form)
                self.same(hotel.do(form, **named), [(3, 5), 2, 1, 4, (1, 6), 3])
                self.assertEqual(repr(form), before)
                self.same(hotel.stays(), ((2, 8), (4, 5), (3, 9)))
                self.same(hotel.log(), [("in", 6), "exchange", "run", "go", "come", "strike",
                                        "prolong", ("out", 6)])
                # Each deed is undone separately.
                self.same(hotel.deeds(), 6)
                self.same([len(hotel.as_of(many)) for many in range(7)], [3, 3, 3, 3, 4, 3, 3])
                self.same([hotel.undo(), hotel.stays()], [True, ((2, 3), (4, 5), (3, 9))])
                self.same([hotel.undo() for _ in range(6)], [True] * 5 + [False])
                self.same(hotel.stays(), TRIO)

    def test_no_deeds(self):
        for named in ({}, {"whole": True}, {"whole": False}):
            for none in ([], ()):
                hotel = Hotel(TRIO)
                self.same(hotel.do(none, **named), [])
                self.same(hotel.do(deeds=none, **named), [])
                self.same([hotel.stays(), hotel.deeds()], [TRIO, 0])
                self.same(hotel.log(), [("in", 0), ("out", 0)] * 2)

    def test_twelve_deeds_and_more(self):
        hotel = Hotel(TRIO)
        self.same(hotel.do([("exchange", 0, 1)] * 15), [(5, 3), (3, 5)] * 7 + [(5, 3)])
        self.same(hotel.deeds(), 15)
        self.same(hotel.log(), [("in", 15)] + ["exchange"] * 15 + [("out", 15)])

    def test_whole_by_name_only(self):
        with self.assertRaises(TypeError):
            Hotel(TRIO).do([], False)

    def test_own_list(self):
        hotel = Hotel(TRIO)
        deeds = [("exchange", 0, 1), ("exchange", 0, 1)]
        results = hotel.do(deeds)
        results.clear()
        deeds.clear()
        self.same(hotel.log(), [("in", 2), "exchange", "exchange", ("out", 2)])
        self.same(hotel.do([("exchange", 0, 1)]), [(5, 3)])

    def test_copies_what_it_is_given(self):
        goal = as_lists(BACK)
        pairs = [[0, 1]]
        hotel = Hotel(TRIO)
        hotel.do([("go", goal), ("run", pairs)])
        goal[0][0] = 7
        goal.pop()
        pairs.clear()
        self.same([hotel.as_of(1).stays(), hotel.stays()], [BACK, ((1, 3), (2, 6), (4, 5))])

    def check_error(self, at, whole):
        """An error at this place of three or so good deeds."""
        errors = [(("exchange", 0, 0), Apart, {"one": 0, "other": 0}),
                  (("exchange", 7, 9), NoGuest, {"guest": 7}),
                  (("run", [(0, 1), (0, 9)]), NoGuest, {"guest": 9}),
                  (("run", [(1, 1)]), Apart, {"one": 1, "other": 1}),
                  (("go", ()), OtherGuests, {"many": 0}),
                  (("go", [[0, 1]]), OtherGuests, {"many": 1}),
                  (("come", 7, 4), Early, {"arrival": 7}),
                  (("come", 0, 6), Taken, {"day": 6}),
                  (("strike", -1), NoGuest, {"guest": -1}),
                  (("prolong", 3, 1), NoGuest, {"guest": 3}),
                  (("prolong", 0, 0), Early, {"arrival": 1}),
                  (("prolong", 0, 6), Taken, {"day": 6}),
                  (("go", ((0, 1), (2, 3), (4, 5))), Barred, {"reason": 0})]
        good = [("exchange", 0, 1), ("prolong", 1, 4), ("run", []), ("exchange", 1, 2)]
        for bad, error, values in errors:
            hotel = Hotel(TRIO)
            hotel.run([])
            deeds = good[:at] + [bad] + good[at:]
            self.refuses(error, values, hotel.do, deeds, whole=whole)
            self.same(hotel.log(), [("in", 5), *[deed[0] for deed in good[:at]], ("out", at)])
            wanted = Hotel(TRIO)
            wanted.run([])
            if not whole:
                for name, *given in good[:at]:
                    getattr(wanted, name)(*given)
            self.same([hotel.deeds(), hotel.stays()], [wanted.deeds(), wanted.stays()])
            self.same([hotel.as_of(k).stays() for k in range(hotel.deeds() + 1)],
                      [wanted.as_of(k).stays() for k in range(hotel.deeds() + 1)])
            self.same([hotel.undo() for _ in range(6)], [wanted.undo() for _ in range(6)])
            self.same(hotel.stays(), TRIO)

    def test_errors_at_each_place(self):
        for at in range(5):
            self.check_error(at, True)
            self.check_error(at, False)

    def test_errors_of_a_full_hotel(self):
        for whole in (True, False):
            hotel = Hotel(DOZEN)
            self.refuses(Full, {"many": 12}, hotel.do,
                         [("strike", 0), ("come", 0, 99), ("come", 0, 98)], whole=whole)
            self.same(hotel.log(), [("in", 3), "strike", "come", ("out", 2)])
            self.same(hotel.stays(), DOZEN if whole else DOZEN[1:] + ((0, 99),))
            self.same(hotel.deeds(), 0 if whole else 2)

    def test_whole_is_the_default(self):
        hotel = Hotel(TRIO)
        self.refuses(NoGuest, {"guest": 3}, hotel.do, [("strike", 0), ("strike", 3)])
        self.same([hotel.stays(), hotel.deeds()], [TRIO, 0])

    def test_bad_deeds(self):
        for bad in NO_DEEDS:
            for before in ([], [("strike", 0)], [("strike", 9), ("go", ())], GOOD):
                for behind in ([], [("strike", 9)], [None], GOOD):
                    for named in ({}, {"whole": True}, {"whole": False}):
                        hotel = Hotel(TRIO)
                        hotel.do([("exchange", 0, 1)])
                        with self.subTest(bad=bad):
                            self.stands(BadDeed, {"at": len(before)}, hotel, "do",
                                        before + [bad] + behind, **named)
                            self.same(hotel.log(), [("in", 1), "exchange", ("out", 1)])
        self.assertTrue(issubclass(BadDeed, ValueError))

    def test_bad_deeds_in_a_tuple(self):
        self.stands(BadDeed, {"at": 0}, Hotel(TRIO), "do", (["strike", 0],))
        self.stands(BadDeed, {"at": 2}, Hotel(TRIO), "do", (*GOOD[:2], ["strike", 0]))
        # A single deed is no list of deeds: its name is no deed.
        self.stands(BadDeed, {"at": 0}, Hotel(TRIO), "do", ("strike", 0))

    def test_right_number_of_arguments(self):
        many = {"exchange": 2, "run": 1, "go": 1, "come": 2, "strike": 1, "prolong": 2}
        for name, right in many.items():
            for given in range(5):
                if given != right:
                    self.stands(BadDeed, {"at": 0}, Hotel(TRIO), "do", [(name,) + (0,) * given])

    def test_deeds_see_what_the_earlier_ones_did(self):
        hotel = Hotel()
        self.same(hotel.do([("come", 1, 3), ("come", 2, 5), ("exchange", 1, 0), ("strike", 0),
                            ("prolong", 0, 9), ("come", 0, 3), ("go", ((2, 3), (0, 9)))]),
                  [1, 2, (3, 5), (1, 5), 3, 2, 1])
        self.same(hotel.stays(), ((2, 3), (0, 9)))


class LogTest(HotelCase):

    def test_only_do_writes(self):
        hotel = Hotel(TRIO)
        hotel.exchange(0, 1)
        hotel.run([(0, 1)])
        hotel.go(BACK)
        hotel.come(0, 9)
        hotel.strike(3)
        hotel.prolong(0, 8)
        hotel.undo()
        hotel.twin()
        hotel.as_of(2)
        self.same(hotel.log(), [])

    def test_undo_leaves_it(self):
        hotel = Hotel(TRIO)
        hotel.do([("strike", 0), ("strike", 0)])
        hotel.undo()
        self.same(hotel.log(), [("in", 2), "strike", "strike", ("out", 2)])
        hotel.do([("come", 0, 9)])
        self.same(hotel.log(), [("in", 2), "strike", "strike", ("out", 2),
                                ("in", 1), "come", ("out", 1)])

    def test_new_list_each_time(self):
        hotel = Hotel(TRIO)
        self.own_list(hotel.log)
        hotel.do([("strike", 0)])
        self.own_list(hotel.log)
        early = hotel.log()
        hotel.do([])
        self.same(early, [("in", 1), "strike", ("out", 1)])


class QueryTest(HotelCase):

    def test_as_the_functions(self):
        for stays in LOTS + [NEVER, CHAIN, DOZEN, MIXED, THIRTEEN, FORTY]:
            hotel = Hotel(stays)
            self.answers(hotel.stays, wanted=stays)
            self.answers(hotel.lot, wanted=lot_many(stays))
            self.answers(hotel.exchanges, wanted=exchanges(stays))
            self.answers(hotel.deeds, wanted=0)
            for day in (-FAR, -1, 0, 1, 2, 3, 4, 5, 20, 31, 100, FAR - 1, FAR, FAR + 5, 10 ** 4000):
                self.answers(hotel.on, day, wanted=guests_on(stays, day))
                self.answers(hotel.on, day=day, wanted=guests_on(stays, day))
            self.assertEqual(state(hotel), state(Hotel(as_lists(stays))))

    def test_examples(self):
        hotel = Hotel(TRIO)
        self.same([hotel.stays(), hotel.lot(), hotel.exchanges(), hotel.on(3), hotel.on(7)],
                  [TRIO, 4, [(0, 1), (1, 2)], [0, 1], []])
        self.same(Hotel(DOZEN).lot(), math.factorial(12))

    def test_own_lists(self):
        hotel = Hotel(TRIO)
        self.own_list(hotel.exchanges)
        self.own_list(hotel.on, 3)
        self.own_list(hotel.on, 9)
        self.own_list(hotel.log)
        self.same([hotel.stays(), hotel.deeds(), hotel.log()], [TRIO, 0, []])

    def test_len(self):
        for stays in LOTS + [DOZEN, THIRTEEN, FORTY]:
            self.same(len(Hotel(stays)), len(stays))
        self.same(len(Hotel()), 0)

    def test_repr(self):
        self.same([repr(Hotel(TRIO)), len(Hotel()), Hotel(TRIO) == Hotel([[1, 3], [2, 5], [4, 6]])],
                  ["Hotel(3 guests, 4 ways to stay)", 0, True])
        for stays, wanted in [((), "Hotel(0 guests, 1 ways to stay)"),
                              (((3, 3),), "Hotel(1 guests, 1 ways to stay)"),
                              (AWAY, "Hotel(2 guests, 1 ways to stay)"),
                              (DOZEN, "Hotel(12 guests, 479001600 ways to stay)"),
                              (FORTY, f"Hotel(40 guests, {math.factorial(40)} ways to stay)")]:
            self.same([repr(Hotel(stays)), str(Hotel(as_lists(stays)))], [wanted, wanted])

    def test_equal(self):
        same = [Hotel(form) for form in forms(TRIO)]
        changed = Hotel(BACK)
        changed.do([("go", TRIO)])
        for one, other in itertools.product([*same[:6], changed], repeat=2):
            self.same([one == other, one != other], [True, False])
        for other in [BACK, TRIO[:2], TRIO[::-1], (), TRIO + ((7, 7),), AWAY, DOZEN]:
            self.same([Hotel(TRIO) == Hotel(other), Hotel(TRIO) != Hotel(other)], [False, True])
            self.same(Hotel(other) == Hotel(TRIO), False)
        hotel = Hotel(TRIO)
        hotel.strike(0)
        self.same([hotel == Hotel(TRIO), hotel == Hotel(TRIO[1:])], [False, True])
        hotel.undo()
        self.same(hotel == Hotel(TRIO), True)
        self.same(Hotel() == Hotel([]), True)

    def test_equal_to_nothing_else(self):
        for hotel in (Hotel(TRIO), Hotel()):
            for other in (TRIO, as_lists(TRIO), (), [], None, True, False, 0, 3, "", repr(hotel),
                          (hotel,), [hotel], {}, object(), Hotel):
                self.same([hotel == other, other == hotel], [False, False])
                self.same([hotel != other, other != hotel], [True, True])


class AsOfTest(HotelCase):

    def hotel(self):
        hotel = Hotel(TRIO)
        hotel.do([("exchange", 0, 1), ("come", 0, 9), ("prolong", 3, 8), ("strike", 0)])
        return hotel

    def test_each_state(self):
        hotel = self.hotel()
        before = state(hotel)
        states = [TRIO, ((1, 5), (2, 3), (4, 6)), ((1, 5), (2, 3), (4, 6), (0, 9)),
                  ((1, 5), (2, 3), (4, 6), (0, 8)), ((2, 3), (4, 6), (0, 8))]
        for many, stays in enumerate(states):
            earlier = hotel.as_of(many)
            self.assertIs(earlier.__class__, Hotel)
            self.assertEqual(earlier, Hotel(stays))
            self.same([earlier.stays(), earlier.deeds(), earlier.log()], [stays, many, []])
            self.same([hotel.as_of(many=many).stays()], [stays])
            for left in range(many, 0, -1):
                self.same([earlier.undo(), earlier.stays()], [True, states[left - 1]])
            self.same([earlier.undo(), earlier.stays()], [False, TRIO])
            self.assertEqual(state(hotel), before)

    def test_goes_on_by_itself(self):
        hotel = self.hotel()
        before = state(hotel)
        for many in range(5):
            earlier = hotel.as_of(many)
            earlier.do([("come", 3, 50)])
            self.same([earlier.deeds(), earlier.log()],
                      [many + 1, [("in", 1), "come", ("out", 1)]])
            self.assertEqual(state(hotel), before)
        early = hotel.as_of(2)
        kept = state(early)
        hotel.do([("strike", 0)])
        hotel.undo()
        hotel.undo()
        hotel.undo()
        hotel.undo()
        self.assertEqual(state(early), kept)
        self.same(hotel.deeds(), 1)

    def test_twin(self):
        hotel = self.hotel()
        before = state(hotel)
        twin = hotel.twin()
        self.assertIs(twin.__class__, Hotel)
        self.assertIsNot(twin, hotel)
        self.assertEqual(twin, hotel)
        self.same([twin.stays(), twin.deeds(), twin.log()], [hotel.stays(), 4, []])
        twin.strike(0)
        self.same([twin.undo() for _ in range(6)], [True] * 5 + [False])
        self.same(twin.stays(), TRIO)
        self.assertEqual(state(hotel), before)
        twin = Hotel(TRIO).twin()
        self.same([twin.stays(), twin.deeds(), twin.undo()], [TRIO, 0, False])

    def test_of_a_twin(self):
        twin = self.hotel().as_of(3).twin().as_of(2)
        self.same([twin.deeds(), twin.stays()], [2, ((1, 5), (2, 3), (4, 6), (0, 9))])
        self.same(twin.as_of(1).stays(), ((1, 5), (2, 3), (4, 6)))

    def test_no_deed(self):
        for hotel in (Hotel(), Hotel(TRIO), self.hotel(), self.hotel().as_of(2)):
            for wrong in (-1, -2, -5, hotel.deeds() + 1, FAR, -FAR, 10 ** 4000):
                self.stands(NoDeed, {"many": wrong}, hotel, "as_of", wrong)
                self.stands(NoDeed, {"many": wrong}, hotel, "as_of", many=wrong)
        hotel = self.hotel()
        hotel.undo()
        self.stands(NoDeed, {"many": 4}, hotel, "as_of", 4)
        self.assertTrue(issubclass(NoDeed, LookupError))


class RandomTest(HotelCase):
    """[1] (f), beside the model of tests/model.py."""

    def day(self, chosen, stays):
        days = [day for _, day in stays] or [0]
        return chosen.choice([chosen.choice(days), chosen.randrange(12), chosen.randrange(40),
                              FAR - chosen.randrange(3)])

    def guest(self, chosen, stays):
        return chosen.choice([chosen.randrange(max(1, len(stays)))] * 6 + [-1, len(stays), FAR])

    def goal(self, chosen, stays):
        goal = [list(stay) for stay in stays_at(stays, chosen.randrange(lot_many(stays)))]
        if chosen.random() < 0.2 and goal:
            at = chosen.randrange(len(goal))
            goal[at] = [goal[at][0], 7 * FAR] if chosen.random() < 0.5 else [0, goal[at][1]]
        if chosen.random() < 0.1:
            goal.append([0, 8 * FAR])
        return goal if chosen.random() < 0.5 else tuple(map(tuple, goal))

    def pairs(self, chosen, stays):
        pairs = [(self.guest(chosen, stays), self.guest(chosen, stays))
                 for _ in range(chosen.randrange(3))]
        meeting = [pair for pair in itertools.combinations(range(len(stays)), 2)
                   if together(stays, *pair)]
        return [chosen.choice(meeting)] * chosen.randrange(5) + pairs if meeting else pairs

    def deed(self, chosen, stays):
        name = chosen.choice(list(DEEDS) + ["come", "come", "exchange", "exchange"])
        if name == "exchange":
            return name, self.guest(chosen, stays), self.guest(chosen, stays)
        if name == "run":
            return name, self.pairs(chosen, stays)
        if name == "go":
            return name, self.goal(chosen, stays)
        if name == "come":
            return name, self.day(chosen, stays), self.day(chosen, stays)
        if name == "strike":
            return name, self.guest(chosen, stays)
        return name, self.guest(chosen, stays), self.day(chosen, stays)

    def outcome(self, hotel, name, *given, **named):
        try:
            return None, getattr(hotel, name)(*given, **named)
        except (NoGuest, Apart, OtherGuests, Barred, Early, Taken, Full) as error:
            return error.__class__, vars(error)

    def compare(self, hotel, model):
        stays = model.states[-1]
        self.same([hotel.stays(), hotel.deeds(), hotel.log()],
                  [stays, len(model.states) - 1, model.log])
        new = Hotel(stays)
        self.assertEqual(hotel, new)
        self.same([len(hotel), repr(hotel), hotel.lot(), hotel.exchanges(), hotel.on(5)],
                  [len(new), repr(new), new.lot(), new.exchanges(), new.on(5)])

    def step(self, chosen, hotel, model):
        stays = model.states[-1]
        kind = chosen.randrange(10)
        if kind < 5:
            deed = self.deed(chosen, stays)
            self.same(self.outcome(hotel.twin(), *deed), self.outcome(Hotel(stays), *deed))
            self.same(self.outcome(hotel, *deed), model.deed(*deed))
        elif kind < 7:
            deeds = [self.deed(chosen, stays) for _ in range(chosen.randrange(5))]
            whole = chosen.random() < 0.5
            self.same(self.outcome(hotel.twin(), "do", deeds, whole=whole),
                      self.outcome(Hotel(stays), "do", deeds, whole=whole))
            self.same(self.outcome(hotel, "do", deeds, whole=whole), model.do(deeds, whole))
        elif kind < 9:
            self.same(hotel.undo(), model.undo())
        elif chosen.random() < 0.3:
            many = chosen.randrange(len(model.states))
            return hotel.as_of(many), Model(model.states[:many + 1])
        return hotel, model

    def test_beside_the_model(self):
        for seed in range(60):
            chosen = random.Random(seed)
            stays = chosen.choice([(), TRIO, DISTANT, CHAIN[:6], NEVER, DOZEN[:8], MIXED, THIRTEEN])
            hotel, model = Hotel(as_lists(stays)), Model([stays])
            for _ in range(40):
                hotel, model = self.step(chosen, hotel, model)
                self.compare(hotel, model)
            self.same([hotel.as_of(k).stays() for k in range(hotel.deeds() + 1)], model.states)
            while model.undo():
                self.same(hotel.undo(), True)
                self.compare(hotel, model)
            self.same(hotel.undo(), False)

    def test_distance_of_the_model(self):
        for stays in LOTS:
            for goal, far in search(stays).items():
                self.same([ring_distance(stays, goal), distance(stays, goal)], [far, far])


if __name__ == "__main__":
    unittest.main()
