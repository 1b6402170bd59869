"""Which stays lead to which others, with how few exchanges, and by which ones."""

from stayswap.errors import Apart, Barred, NoGuest, OtherGuests
from stayswap.exchanging import exchanged, exchanges, run
from stayswap.stays import as_tuples


def arrivals_of(stays):
    """Return the list of the arrivals of all guests."""
    return [stay[0] for stay in stays]


def days_of(stays):
    """Return the list of the leaving days of all guests."""
    return [stay[1] for stay in stays]


def check_as_many(one, other):
    """Raise OtherGuests unless both have the same number of guests."""
    if len(one) != len(other):
        raise OtherGuests(len(other))


def check_leads(one, other):
    """Raise OtherGuests or Barred unless one leads to other."""
    reason = bar(one, other)
    if reason is not None:
        raise Barred(reason)


def leads(one, other):
    """Tell whether some exchanges turn one into other."""
    return bar(one, other) is None


def bar(one, other):
    """Return why one does not lead to other, a guest or "days", or None if it does."""
    check_as_many(one, other)
    for guest, arrival in enumerate(arrivals_of(one)):
        if arrival != other[guest][0]:
            return guest
    if sorted(days_of(one)) != sorted(days_of(other)):
        return "days"
    return None


def rings(one, other):
    """Return the ascending list of the rings in which the leaving days go round."""
    check_leads(one, other)
    holders = {day: guest for guest, day in enumerate(days_of(one))}
    following = [holders[day] for day in days_of(other)]
    found = [_ring(following, guest) for guest in range(len(following))]
    # Each ring was found once from each of its guests; the one from the least guest stays.
    return [ring for ring in found if len(ring) > 1 and ring[0] == min(ring)]


def _ring(following, guest):
    ring = [guest]
    while following[ring[-1]] != guest:
        ring.append(following[ring[-1]])
    return tuple(ring)


def distance(one, other):
    """Return the fewest exchanges that turn one into other."""
    return sum([len(ring) - 1 for ring in rings(one, other)])


def nearer(one, other):
    """Return a pair whose exchange brings one nearer to other, None if both are equal."""
    found = rings(one, other)
    if not found:
        return None
    # An exchange within a ring splits it in two. Some two of its guests share a day: guests
    # who never meet could not take each other's leaving days without one leaving too early.
    ring = found[0]
    return [pair for pair in exchanges(one) if pair[0] in ring and pair[1] in ring][0]


def shortest(one, other):
    """Return a list of exchanges, as few as possible, that turn one into other."""
    present = one
    pairs = []
    pair = nearer(present, other)
    while pair is not None:
        pairs.append(pair)
        present = exchanged(present, pair[0], pair[1])
        pair = nearer(present, other)
    return pairs


def is_integers(value, many):
    """Tell whether value, which may be anything, is a tuple of so many integers."""
    if not isinstance(value, tuple) or len(value) != many:
        return False
    # For Python, True and False are integers; for the document they are not.
    return all([isinstance(item, int) and not isinstance(item, bool) for item in value])


def is_way(one, other, value):
    """Tell whether value, which may be anything, is a list of exchanges from one to other."""
    check_as_many(one, other)
    if not isinstance(value, list) or not all([is_integers(item, 2) for item in value]):
        return False
    try:
        reached = run(one, value)
    except (NoGuest, Apart):
        return False
    return reached == as_tuples(other)
