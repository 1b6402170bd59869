"""Histories: every newcomer exchanges at most once, on the day of arrival."""

from stayswap.exchanging import exchanged, run
from stayswap.leading import check_leads, days_of, is_integers
from stayswap.stays import check_guest, guests_on, order_of


def mates_of(stays, guest):
    """Return the ascending list of those whom the guest meets on arrival and who come ahead."""
    check_guest(stays, guest)
    arrival = stays[guest][0]
    return [
        mate
        for mate in guests_on(stays, arrival)
        if (stays[mate][0], mate) < (arrival, guest)
    ]


def history(one, other):
    """Return the only history of one that turns it into other."""
    check_leads(one, other)
    goal = other
    entries = []
    # Until it is the turn of a guest, the guest keeps the first leaving day. Thus, going
    # backwards, who has it behind that turn is the mate.
    for guest in reversed(order_of(one)):
        arrival, first_day = one[guest]
        mate = days_of(goal).index(first_day)
        if mate != guest:
            entries.append((arrival, guest, mate))
            goal = exchanged(goal, guest, mate)
    return tuple(entries[::-1])


def is_history(stays, value):
    """Tell whether value, which may be anything, is a history of stays."""
    if not isinstance(value, tuple) or not all([is_integers(item, 3) for item in value]):
        return False
    present = stays
    # Whose turn is past is no longer among these.
    waiting = order_of(stays)
    for day, guest, mate in value:
        if guest not in waiting or day != present[guest][0]:
            return False
        if mate not in mates_of(present, guest):
            return False
        waiting = waiting[waiting.index(guest) + 1:]
        present = exchanged(present, guest, mate)
    return True


def after(stays, history):
    """Return the stays to which a history of stays leads."""
    return run(stays, [(guest, mate) for day, guest, mate in history])
