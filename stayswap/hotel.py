"""A hotel: stays that are kept over many deeds, each of which can be undone."""

from stayswap.counting import lot_many
from stayswap.errors import (Apart, BadDeed, Barred, Early, Full, NoDeed, NoGuest, OtherGuests,
                             Taken)
from stayswap.exchanging import exchanged, exchanges, run
from stayswap.leading import days_of, distance
from stayswap.stays import as_tuples, check_guest, guests_on

ROOM = 12

# How many arguments each deed takes.
ARGUMENTS = {"exchange": 2, "run": 1, "go": 1, "come": 2, "strike": 1, "prolong": 2}


def _is_deed(item):
    """Tell whether the item, which may be anything, is a deed's name and its arguments."""
    if not isinstance(item, tuple) or len(item) == 0:
        return False
    # A name may be anything, also what is no key of a dict.
    if not isinstance(item[0], str) or item[0] not in ARGUMENTS:
        return False
    return len(item) == ARGUMENTS[item[0]] + 1


class Hotel:
    """Stays, changed by deeds: exchange, run, go, come, strike, prolong."""

    def __init__(self, stays=()):
        # The stays at first and after each deed that is in effect.
        self._states = [as_tuples(stays)]
        self._log = []

    def __len__(self):
        return len(self._states[-1])

    def __eq__(self, other):
        return isinstance(other, Hotel) and self._states[-1] == other._states[-1]

    def __repr__(self):
        return f"Hotel({len(self)} guests, {self.lot()} ways to stay)"

    def exchange(self, one, other):
        """Let one and other exchange; return the pair of their leaving days then."""
        present = self.stays()
        self._states.append(exchanged(present, one, other))
        return (present[other][1], present[one][1])

    def run(self, pairs):
        """Do these exchanges, one after another, as one deed; return how many they are."""
        self._states.append(run(self.stays(), pairs))
        return len(pairs)

    def go(self, goal):
        """Make the stays goal, as one deed; return the distance."""
        far = distance(self.stays(), goal)
        self._states.append(as_tuples(goal))
        return far

    def come(self, arrival, leaving):
        """Let one more guest come; return how many guests there are then."""
        present = self.stays()
        if leaving < arrival:
            raise Early(arrival)
        if leaving in days_of(present):
            raise Taken(leaving)
        if len(present) >= ROOM:
            raise Full(ROOM)
        self._states.append(present + ((arrival, leaving),))
        return len(present) + 1

    def strike(self, guest):
        """Strike the guest out; return the stay."""
        present = self.stays()
        check_guest(present, guest)
        self._states.append(present[:guest] + present[guest + 1:])
        return present[guest]

    def prolong(self, guest, day):
        """Let the guest leave on the day; return the leaving day before."""
        present = self.stays()
        check_guest(present, guest)
        arrival, before = present[guest]
        if day < arrival:
            raise Early(arrival)
        if day != before and day in days_of(present):
            raise Taken(day)
        self._states.append(present[:guest] + ((arrival, day),) + present[guest + 1:])
        return before

    def undo(self):
        """Take back the last deed in effect; tell whether there was one."""
        if self.deeds() == 0:
            return False
        self._states.pop()
        return True

    def do(self, deeds, *, whole=True):
        """Do deeds, tuples of a name and arguments, one after another; return their results."""
        for at, item in enumerate(deeds):
            if not _is_deed(item):
                raise BadDeed(at)
        before = len(self._states)
        results = []
        self._log.append(("in", len(deeds)))
        try:
            for item in deeds:
                results.append(self._done(item[0], item[1:]))
                self._log.append(item[0])
        except (NoGuest, Apart, OtherGuests, Barred, Early, Taken, Full):
            self._log.append(("out", len(results)))
            if whole:
                self._states = self._states[:before]
            raise
        self._log.append(("out", len(results)))
        return results

    def _done(self, name, given):
        """Do the deed with this name and these arguments and return its result."""
        if name == "exchange":
            return self.exchange(*given)
        if name == "run":
            return self.run(*given)
        if name == "go":
            return self.go(*given)
        if name == "come":
            return self.come(*given)
        if name == "strike":
            return self.strike(*given)
        return self.prolong(*given)

    def stays(self):
        """Return the present stays."""
        return self._states[-1]

    def lot(self):
        """Return the number of stays in the lot."""
        return lot_many(self.stays())

    def exchanges(self):
        """Return the ascending list of the pairs of guests who may exchange."""
        return exchanges(self.stays())

    def on(self, day):
        """Return the ascending list of the guests who are there on the day."""
        return guests_on(self.stays(), day)

    def deeds(self):
        """Return how many deeds can be undone."""
        return len(self._states) - 1

    def as_of(self, many):
        """Return a new hotel in the state after the first so many deeds, with an empty log."""
        if not 0 <= many <= self.deeds():
            raise NoDeed(many)
        earlier = Hotel()
        earlier._states = self._states[:many + 1]
        return earlier

    def twin(self):
        """Return a new hotel in the same state, with the same deeds and an empty log."""
        return self.as_of(self.deeds())

    def log(self):
        """Return the list of what do has done."""
        return list(self._log)
