"""Small lots: the only place where stays are gone through one by one."""

from stayswap.counting import days_with_ways, lot_many
from stayswap.errors import TooMany
from stayswap.exchanging import exchanged, exchanges
from stayswap.granting import granted, left_arrivals, left_days
from stayswap.leading import arrivals_of, check_leads, days_of, distance
from stayswap.most import MOST
from stayswap.stays import as_tuples


def all_stays(stays):
    """Return the ascending list of the stays of the lot."""
    _check_small(stays)
    return all_taking(arrivals_of(stays), days_of(stays))


def _check_small(stays):
    many = lot_many(stays)
    if many > MOST:
        raise TooMany(many)


def all_taking(arrivals, days):
    """Return the ascending list of the stays with these arrivals and leaving days."""
    found = [()]
    for _ in arrivals:
        found = [longer for taken in found for longer in _with_next(arrivals, days, taken)]
    return found


def _with_next(arrivals, days, taken):
    """Return the stays of the first guests, taken, with each possible stay of the next one."""
    at = len(taken)
    days_taken = days_of(taken)
    left = [day for day in days if day not in days_taken]
    return [
        taken + ((arrivals[at], day),)
        for day, ways in days_with_ways(arrivals[at:], left, 0)
    ]


def nearest_meeting(stays, wish):
    """Return the nearest of the stays that meet the wish, of which there is at least one."""
    taken = all_taking(left_arrivals(stays, wish), left_days(stays, wish))
    found = [granted(stays, wish, days_of(part)) for part in taken]
    # They ascend, and of several that are as near, min takes the first one.
    return min(found, key=lambda other: distance(stays, other))


def ways_many(one, other):
    """Return how many lists of exchanges, as few as possible, turn one into other."""
    check_leads(one, other)
    _check_small(one)
    ways = {as_tuples(one): 1}
    for _ in range(distance(one, other)):
        ways = _ways_with_next(ways)
    return ways[as_tuples(other)]


def _ways_with_next(ways):
    """Return in how many ways each stays are reached with one exchange more than in ways."""
    found = {}
    for stays, many in ways.items():
        for guest, mate in exchanges(stays):
            reached = exchanged(stays, guest, mate)
            found[reached] = found.get(reached, 0) + many
    return found
