"""The stays of a lot that are most alike and least alike in length, and crossing pairs."""

from stayswap.counting import options
from stayswap.errors import NoGuest
from stayswap.exchanging import exchanges
from stayswap.leading import days_of
from stayswap.stays import nights, order_of, share_day


def _dealt(stays, days):
    """Return the stays in which the guests leave, in the order of arrival, on these days."""
    leaving = dict(zip(order_of(stays), days))
    return tuple([(stay[0], leaving[guest]) for guest, stay in enumerate(stays)])


def first_out(stays):
    """Return the stays of the lot in which the guests leave in the order of arrival."""
    return _dealt(stays, sorted(days_of(stays)))


def last_out(stays):
    """Return the stays of the lot in which who comes last takes the first possible day."""
    left = sorted(days_of(stays))
    taken = []
    for guest in reversed(order_of(stays)):
        arrival = stays[guest][0]
        day = [possible for possible in left if possible >= arrival][0]
        left.remove(day)
        taken.append(day)
    return _dealt(stays, taken[::-1])


def squares(stays):
    """Return the sum of the squares of all nights."""
    return sum([many * many for many in nights(stays)])


def square_range(stays):
    """Return the pair of the least and the greatest sum of squares in the lot."""
    return (squares(first_out(stays)), squares(last_out(stays)))


def longest_range(stays):
    """Return the pair of the least and the greatest longest nights of a guest in the lot."""
    _check_some(stays)
    return (max(nights(first_out(stays))), max(nights(last_out(stays))))


def shortest_range(stays):
    """Return the pair of the least and the greatest shortest nights of a guest in the lot."""
    _check_some(stays)
    return (min(nights(last_out(stays))), min(nights(first_out(stays))))


def _check_some(stays):
    if len(stays) == 0:
        raise NoGuest(0)


def crossings(stays):
    """Return how many pairs of guests who share a day leave in the order of arrival."""
    order = order_of(stays)
    return len([
        (ahead, behind)
        for at, ahead in enumerate(order)
        for behind in order[at + 1:]
        if share_day(stays, ahead, behind) and stays[ahead][1] < stays[behind][1]
    ])


def meetings(stays):
    """Return how many pairs of guests share a day."""
    return len(exchanges(stays))


def crossing_counts(stays):
    """Return the list of the numbers of stays of the lot with 0, 1, 2, .. crossing pairs."""
    counts = [1]
    for option in options(stays):
        counts = _spread(counts, option)
    return counts


def _spread(counts, option):
    """Return the coefficients of the product with 1 + t + .. + t ** (option - 1)."""
    product = [0] * (len(counts) + option - 1)
    for at, count in enumerate(counts):
        for more in range(option):
            product[at + more] += count
    return product
