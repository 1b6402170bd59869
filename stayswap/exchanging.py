"""Exchanges: two different guests who share a day swap their leaving days."""

from stayswap.errors import Apart
from stayswap.stays import as_tuples, share_day


def exchanges(stays):
    """Return the ascending list of the pairs of guests, the lesser first, who may exchange."""
    many = len(stays)
    return [
        (one, other)
        for one in range(many)
        for other in range(one + 1, many)
        if share_day(stays, one, other)
    ]


def exchanged(stays, one, other):
    """Return the stays after the exchange of one and other."""
    # share_day comes first: a guest who is missing is named ahead of one who is apart.
    if not share_day(stays, one, other) or one == other:
        raise Apart(one, other)
    changed = list(as_tuples(stays))
    changed[one] = (stays[one][0], stays[other][1])
    changed[other] = (stays[other][0], stays[one][1])
    return tuple(changed)


def run(stays, pairs):
    """Return the stays after these exchanges, one after another."""
    present = as_tuples(stays)
    for one, other in pairs:
        present = exchanged(present, one, other)
    return present
