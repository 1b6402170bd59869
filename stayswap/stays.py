"""Stays: a tuple of pairs (arrival, leaving), one for each guest, no two leaving days equal."""

from stayswap.errors import NoGuest


def is_stays(value):
    """Tell whether value, which may be anything, is stays."""
    if not isinstance(value, tuple) or not all([_is_stay(item) for item in value]):
        return False
    return len({item[1] for item in value}) == len(value)


def _is_stay(value):
    if not isinstance(value, tuple) or len(value) != 2:
        return False
    return _is_day(value[0]) and _is_day(value[1]) and value[0] <= value[1]


def _is_day(value):
    # For Python, True and False are integers; for the document they are not.
    return isinstance(value, int) and not isinstance(value, bool) and value >= 0


def as_tuples(stays):
    """Return the stays as a tuple of tuples: callers may pass lists."""
    return tuple([(arrival, leaving) for arrival, leaving in stays])


def check_guest(stays, guest):
    """Raise NoGuest unless the stays have this guest."""
    # Python would take -1 for the last guest, so a failed index is not enough.
    if not 0 <= guest < len(stays):
        raise NoGuest(guest)


def nights(stays):
    """Return the tuple of the nights of all guests."""
    return tuple([leaving - arrival for arrival, leaving in stays])


def guests_on(stays, day):
    """Return the ascending list of the guests who are there on the day."""
    return [guest for guest, (arrival, leaving) in enumerate(stays) if arrival <= day <= leaving]


def order_of(stays):
    """Return the list of the guests by arrivals, with the same arrival by numbers."""
    return sorted(range(len(stays)), key=lambda guest: (stays[guest][0], guest))


def share_day(stays, one, other):
    """Tell whether there is a day on which both guests are there."""
    check_guest(stays, one)
    check_guest(stays, other)
    return stays[one][0] <= stays[other][1] and stays[other][0] <= stays[one][1]
