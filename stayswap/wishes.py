"""Wishes: a leaving day, or None, for each guest."""

from stayswap.counting import fits_many, stays_with_number
from stayswap.errors import NoNumber, TooMany
from stayswap.granting import granted, left_arrivals, left_days
from stayswap.leading import check_as_many, days_of
from stayswap.most import MOST
from stayswap.small import nearest_meeting


def meets(stays, wish):
    """Tell whether every guest who has a day in the wish leaves on it."""
    check_as_many(stays, wish)
    return all([day is None or day == stay[1] for stay, day in zip(stays, wish)])


def wish_many(stays, wish):
    """Return how many stays of the lot meet the wish."""
    check_as_many(stays, wish)
    if not _may_be_granted(stays, wish):
        return 0
    return fits_many(left_arrivals(stays, wish), left_days(stays, wish))


def _may_be_granted(stays, wish):
    # A day that is wished for twice, or that nobody has, leaves more days than guests.
    if len(left_days(stays, wish)) != len(left_arrivals(stays, wish)):
        return False
    return all([day is None or day >= stay[0] for stay, day in zip(stays, wish)])


def wish_at(stays, wish, number):
    """Return the stays with this number, in ascending order, among those that meet the wish."""
    # Counted first: it refuses a wish with too few or too many items ahead of any number.
    many = wish_many(stays, wish)
    if not 0 <= number < many:
        raise NoNumber(number)
    # In ascending order, those that meet the wish differ only in the other guests.
    others = stays_with_number(left_arrivals(stays, wish), left_days(stays, wish), number)
    return granted(stays, wish, days_of(others))


def nearest(stays, wish):
    """Return the nearest stays of the lot that meet the wish, None if there are none."""
    many = wish_many(stays, wish)
    if many > MOST:
        raise TooMany(many)
    if many == 0:
        return None
    return nearest_meeting(stays, wish)
