"""What the tests of several modules share."""

import itertools
import unittest

TRIO = ((1, 3), (2, 5), (4, 6))
AWAY = ((1, 2), (5, 7))
FAR = 10 ** 40


def forms(value):
    """Yield value with every choice of a list or a tuple in each place of a tuple or a list."""
    if not isinstance(value, (list, tuple)):
        yield value
        return
    for items in itertools.product(*[list(forms(item)) for item in value]):
        yield tuple(items)
        yield list(items)


def small_stays(most_guests, last_day):
    """Yield all stays of up to so many guests with days up to last_day."""
    stay_choices = [
        (arrival, leaving)
        for arrival in range(last_day + 1)
        for leaving in range(arrival, last_day + 1)
    ]
    for guests in range(most_guests + 1):
        for stays in itertools.product(stay_choices, repeat=guests):
            if len({leaving for _, leaving in stays}) == guests:
                yield stays


class Case(unittest.TestCase):
    """A test case whose comparisons tell lists from tuples and True from 1."""

    def same(self, got, wanted):
        self.assertEqual(repr(got), repr(wanted))

    def answers(self, call, *args, wanted, **named):
        """Twice the same call, with the wanted answer and with its arguments unchanged."""
        before = repr((args, named))
        for _ in range(2):
            self.same(call(*args, **named), wanted)
            self.assertEqual(repr((args, named)), before)

    def refuses(self, error, values, call, *args, **named):
        """The call raises exactly this error, with these attributes, and changes no argument."""
        before = repr((args, named))
        with self.assertRaises(error) as caught:
            call(*args, **named)
        self.assertIs(caught.exception.__class__, error)
        self.same({name: getattr(caught.exception, name) for name in values}, values)
        self.assertEqual(repr((args, named)), before)

    def own_list(self, call, *args):
        """The caller may change the returned list: the next answer is as before."""
        first = call(*args)
        self.assertIs(first.__class__, list)
        wanted = repr(first)
        first.append("changed")
        first.reverse()
        self.assertEqual(repr(call(*args)), wanted)
