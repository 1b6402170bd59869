"""What is left to the guests who have no day in a wish, if the others have theirs."""

from stayswap.leading import days_of


def left_arrivals(stays, wish):
    """Return the list of the arrivals of the guests who have no day in the wish."""
    return [stay[0] for stay, day in zip(stays, wish) if day is None]


def left_days(stays, wish):
    """Return the list of the leaving days that are not in the wish."""
    return [day for day in days_of(stays) if day not in wish]


def granted(stays, wish, days):
    """Return the stays with the days of the wish, the other guests taking these days in turn."""
    waiting = list(days)
    found = []
    for stay, day in zip(stays, wish):
        if day is None:
            found.append((stay[0], waiting.pop(0)))
        else:
            found.append((stay[0], day))
    return tuple(found)
