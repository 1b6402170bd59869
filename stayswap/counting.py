"""How many stays can be reached, at which distances, and with which numbers."""

from math import gcd

from stayswap.errors import NoNumber, Obstacle, OtherGuests
from stayswap.histories import mates_of
from stayswap.leading import arrivals_of, check_leads, days_of


def fraction(numerator, denominator):
    """Return the pair of both in lowest terms; the denominator is at least 1."""
    common = gcd(numerator, denominator)
    return (numerator // common, denominator // common)


def options(stays):
    """Return the tuple with one more than the number of mates of each guest."""
    return tuple([len(mates_of(stays, guest)) + 1 for guest in range(len(stays))])


def lot_many(stays):
    """Return the number of stays in the lot."""
    many = 1
    for option in options(stays):
        many *= option
    return many


def fits_many(arrivals, days):
    """Return in how many ways these guests can take these days, one each and none too early."""
    many = 1
    # The later a guest comes, the fewer days are possible, and those who come even later have
    # taken theirs from among these.
    for taken, arrival in enumerate(sorted(arrivals, reverse=True)):
        many *= max(0, len([day for day in days if day >= arrival]) - taken)
    return many


def days_with_ways(arrivals, days, guest):
    """Return the ascending list of the pairs (day, ways) of the days that the guest can take.

    The ways are in how many ways the other guests can take the other days then, at least one.
    """
    others = arrivals[:guest] + arrivals[guest + 1:]
    found = []
    for day in sorted(days):
        ways = fits_many(others, [left for left in days if left != day])
        if day >= arrivals[guest] and ways > 0:
            found.append((day, ways))
    return found


def _day_with_number(choices, number):
    """Return the day of the choice in which the number falls, and the number within it."""
    at = 0
    while number >= choices[at][1]:
        number -= choices[at][1]
        at += 1
    return choices[at][0], number


def stays_with_number(arrivals, days, number):
    """Return the stays with this number among those with these arrivals and leaving days."""
    found = []
    while arrivals:
        day, number = _day_with_number(days_with_ways(arrivals, days, 0), number)
        found.append((arrivals[0], day))
        arrivals = arrivals[1:]
        days = [left for left in days if left != day]
    return tuple(found)


def stays_at(stays, number):
    """Return the stays of the lot with this number, in ascending order."""
    if not 0 <= number < lot_many(stays):
        raise NoNumber(number)
    return stays_with_number(arrivals_of(stays), days_of(stays), number)


def number_of(stays, other):
    """Return the number of other in the lot of stays."""
    check_leads(stays, other)
    arrivals = arrivals_of(other)
    days = days_of(other)
    number = 0
    # Ahead of other come, guest by guest, those that are the same up to the guest, who leaves
    # earlier in them.
    for guest, own_day in enumerate(days):
        choices = days_with_ways(arrivals[guest:], days[guest:], 0)
        number += sum([ways for day, ways in choices if day < own_day])
    return number


def spheres(stays):
    """Return the list of the numbers of stays of the lot at the distances 0, 1, 2, .."""
    counts = [1]
    for option in options(stays):
        if option > 1:
            farther = [0] + [(option - 1) * count for count in counts]
            counts = [near + far for near, far in zip(counts + [0], farther)]
    return counts


def farthest(stays):
    """Return the greatest distance of stays of the lot from stays."""
    return len(spheres(stays)) - 1


def mean_distance(stays):
    """Return the average distance of the stays of the lot from stays, as a fraction."""
    total = sum([far * count for far, count in enumerate(spheres(stays))])
    return fraction(total, lot_many(stays))


def obstacle(arrivals, days):
    """Return the greatest arrival from which on there are too few days, None if there is none."""
    if len(arrivals) != len(days):
        raise OtherGuests(len(days))
    for day in sorted(arrivals, reverse=True):
        guests_left = [arrival for arrival in arrivals if arrival >= day]
        days_left = [leaving for leaving in days if leaving >= day]
        if len(guests_left) > len(days_left):
            return day
    return None


def first_stays(arrivals, days):
    """Return the first stays, in ascending order, with these arrivals and leaving days."""
    day = obstacle(arrivals, days)
    if day is not None:
        raise Obstacle(day)
    return stays_with_number(arrivals, days, 0)
