"""Chances: each stays of the lot is as likely as any other."""

from stayswap.counting import days_with_ways, fraction, lot_many
from stayswap.leading import arrivals_of, days_of
from stayswap.stays import check_guest


def _days_of_guest(stays, guest):
    """Return the pairs (day, ways): in so many stays of the lot the guest leaves on the day."""
    check_guest(stays, guest)
    return days_with_ways(arrivals_of(stays), days_of(stays), guest)


def leaving_chances(stays, guest):
    """Return the ascending list of the pairs (day, chance) of the leaving days of the guest."""
    many = lot_many(stays)
    return [(day, fraction(ways, many)) for day, ways in _days_of_guest(stays, guest)]


def mean_nights(stays, guest):
    """Return the average nights of the guest, as a fraction."""
    choices = _days_of_guest(stays, guest)
    arrival = stays[guest][0]
    total = sum([(day - arrival) * ways for day, ways in choices])
    return fraction(total, lot_many(stays))


def meeting_chance(stays, one, other):
    """Return the chance, a fraction, that one and other share a day."""
    check_guest(stays, one)
    check_guest(stays, other)
    # Who comes later stays at least until the own arrival, so they meet exactly if the one who
    # comes earlier is still there then.
    earlier, later = one, other
    if stays[other][0] < stays[one][0]:
        earlier, later = other, one
    arrival = stays[later][0]
    meeting = sum([ways for day, ways in _days_of_guest(stays, earlier) if day >= arrival])
    return fraction(meeting, lot_many(stays))


def sure_meetings(stays):
    """Return the ascending list of the pairs of guests who share a day in all stays of the lot."""
    many = len(stays)
    return [
        (one, other)
        for one in range(many)
        for other in range(one + 1, many)
        if meeting_chance(stays, one, other) == (1, 1)
    ]
