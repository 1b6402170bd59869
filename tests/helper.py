"""What the tests of several modules share."""

import fractions
import functools
import itertools
import unittest

TRIO = ((1, 3), (2, 5), (4, 6))
AWAY = ((1, 2), (5, 7))
FAR = 10 ** 40

# All twelve are there on day 20; so are they in all stays of the lot.
DOZEN = tuple((guest, 20 + guest) for guest in range(12))
# Each of the twelve leaves before the next one comes.
NEVER = tuple((10 * guest, 10 * guest + 5) for guest in range(12))
# Each of the twelve meets the one before and the one behind.
CHAIN = tuple((2 * guest, 2 * guest + 3) for guest in range(12))
# All come on the same day.
TOGETHER = ((4, 9), (4, 5), (4, 4), (4, 7))
# Great days, the order of arrival against the numbers.
DISTANT = ((FAR, FAR + 4), (5, FAR + 1), (FAR - 1, FAR), (5, FAR - 1), (FAR, FAR + 2))
# Twelve with equal arrivals, great days, and gaps.
MIXED = ((7, 30), (FAR, FAR + 9), (0, 8), (7, 11), (12, 40), (3, 9), (FAR - 5, FAR), (20, 21),
         (7, 25), (45, FAR + 1), (0, 2), (FAR, FAR + 3))

# Of at most 300 stays, 288 are the most in a lot; the next lot has 324 (a guest has at most one
# mate more than the guest before: five options mean two, three and four options of others).
LOT_288 = ((10, 41), (20, 51), (30, 52), (40, 73), (50, 74), (60, 75))
LOT_324 = ((10, 31), (20, 41), (30, 51), (40, 61), (50, 62), (60, 85), (70, 86))
# Twelve guests, 288 stays: the last five have all the choices, or the first ones.
LATE_288 = NEVER[:6] + tuple((arrival + 60, leaving + 60) for arrival, leaving in LOT_288)
SOON_288 = LOT_288 + tuple((arrival + 80, leaving + 80) for arrival, leaving in NEVER[:6])

# Stays with small lots.
LOTS = [(), ((3, 3),), ((0, FAR),), TRIO, AWAY, TOGETHER, DISTANT, CHAIN[:6], NEVER[:4], DOZEN[:4],
        ((2, 2), (2, 4), (3, 3)), ((5, 9), (2, 6), (1, 5)), ((4, 6), (1, 3), (2, 5), (6, 9)),
        ((0, 1), (1, 5), (1, 2), (5, 7), (2, 8)), ((0, 9), (8, 8), (3, 4), (4, 6), (6, 7)),
        ((6, 6), (5, 7), (2, 5), (3, 9), (5, 8)), ((1, 7), (0, 2), (9, 12), (3, 3), (10, 10))]

# Neither a way nor a history of any stays, in all kinds and depths.
OTHER_VALUES = [
    None, True, False, 0, 1, -1, FAR, "", "days", "01", "(0, 1)",
    [None], [True], [0], [0, 1], ["01"], ["ab"], [""], [[]], [()], [(0,)], [(0, 1, 2)], [[0, 1]],
    [(0, None)], [(None, 0)], [("0", "1")], [(0, "1")], [((0, 1),)], [[(0, 1)]], [(0, (1,))],
    [(0, [1])], [[[[[[[[]]]]]]]],
    (None,), (True,), (0,), (2, 1, 0), ("210",), ("abc",), ([],), ((),), ((2,),), ((2, 1),),
    ((2, 1, 0, 0),), ([2, 1, 0],), ((2, 1, None),), ((None, 1, 0),), ((2, "1", 0),),
    (("2", "1", "0"),), (((2, 1, 0),),), ((2, (1,), 0),), ((2, 1, [0]),), ((((((((),),),),),),),),
]


def forms(value):
    """Yield value with every choice of a list or a tuple in each place of a tuple or a list."""
    if not isinstance(value, (list, tuple)):
        yield value
        return
    for items in itertools.product(*[list(forms(item)) for item in value]):
        yield tuple(items)
        yield list(items)


def as_lists(value):
    """Return value with lists in place of all tuples."""
    if isinstance(value, (list, tuple)):
        return [as_lists(item) for item in value]
    return value


def mixed(value):
    """Return stays in a tuple with lists and tuples in turn."""
    return tuple(list(item) if at % 2 else tuple(item) for at, item in enumerate(value))


def stays_forms(stays):
    """Return the stays, as they are, all of lists, a list of tuples, and mixed."""
    return [stays, as_lists(stays), list(stays), mixed(stays)]


def small_stays(most_guests, last_day):
    """Yield all stays of up to so many guests with days up to last_day."""
    stay_choices = [
        (arrival, leaving)
        for arrival in range(last_day + 1)
        for leaving in range(arrival, last_day + 1)
    ]
    for guests in range(most_guests + 1):
        for stays in itertools.product(stay_choices, repeat=guests):
            if len({leaving for _, leaving in stays}) == guests:
                yield stays


def together(stays, one, other):
    """Tell whether the latest arrival of both is not behind the first leaving day of both."""
    return max(stays[one][0], stays[other][0]) <= min(stays[one][1], stays[other][1])


def swapped(stays, one, other):
    """The stays in which one and other have changed their leaving days."""
    found = [list(stay) for stay in stays]
    found[one][1], found[other][1] = found[other][1], found[one][1]
    return tuple(tuple(stay) for stay in found)


def neighbours(stays):
    """The pairs who may exchange, the lesser guest first, with the stays that come of it."""
    return {(one, other): swapped(stays, one, other)
            for one, other in itertools.combinations(range(len(stays)), 2)
            if together(stays, one, other)}


def search(stays):
    """All stays of the lot with their distances, found exchange by exchange."""
    found = {stays: 0}
    waiting = [stays]
    for present in waiting:
        for reached in neighbours(present).values():
            if reached not in found:
                found[reached] = found[present] + 1
                waiting.append(reached)
    return found


def ways(arrivals, days):
    """In how many ways guests with these arrivals can take these days; by sets of days."""
    @functools.lru_cache(None)
    def many(at, taken):
        if at == len(arrivals):
            return 1
        return sum(many(at + 1, taken | 1 << k) for k, day in enumerate(days)
                   if day >= arrivals[at] and not taken >> k & 1)

    return many(0, 0)


def ratio(numerator, denominator):
    """The pair of both in lowest terms."""
    return fractions.Fraction(numerator, denominator).as_integer_ratio()


class Case(unittest.TestCase):
    """A test case whose comparisons tell lists from tuples and True from 1."""

    def same(self, got, wanted):
        self.assertEqual(repr(got), repr(wanted))

    def answers(self, call, *args, wanted, **named):
        """Twice the same call, with the wanted answer and with its arguments unchanged."""
        before = repr((args, named))
        for _ in range(2):
            self.same(call(*args, **named), wanted)
            self.assertEqual(repr((args, named)), before)

    def refuses(self, error, values, call, *args, **named):
        """The call raises exactly this error, with these attributes, and changes no argument."""
        before = repr((args, named))
        with self.assertRaises(error) as caught:
            call(*args, **named)
        self.assertIs(caught.exception.__class__, error)
        self.same({name: getattr(caught.exception, name) for name in values}, values)
        self.assertEqual(repr((args, named)), before)

    def own_list(self, call, *args):
        """The caller may change the returned list: the next answer is as before."""
        first = call(*args)
        self.assertIs(first.__class__, list)
        wanted = repr(first)
        first.append("changed")
        first.reverse()
        self.assertEqual(repr(call(*args)), wanted)
