"""Small lots: the only place where stays are gone through one by one."""

from stayswap.counting import days_with_ways
from stayswap.granting import granted, left_arrivals, left_days
from stayswap.leading import days_of, distance


def all_taking(arrivals, days):
    """Return the ascending list of the stays with these arrivals and leaving days."""
    found = [()]
    for _ in arrivals:
        found = [longer for taken in found for longer in _with_next(arrivals, days, taken)]
    return found


def _with_next(arrivals, days, taken):
    """Return the stays of the first guests, taken, with each possible stay of the next one."""
    at = len(taken)
    days_taken = days_of(taken)
    left = [day for day in days if day not in days_taken]
    return [
        taken + ((arrivals[at], day),)
        for day, ways in days_with_ways(arrivals[at:], left, 0)
    ]


def nearest_meeting(stays, wish):
    """Return the nearest of the stays that meet the wish, of which there is at least one."""
    taken = all_taking(left_arrivals(stays, wish), left_days(stays, wish))
    found = [granted(stays, wish, days_of(part)) for part in taken]
    # They ascend, and of several that are as near, min takes the first one.
    return min(found, key=lambda other: distance(stays, other))
