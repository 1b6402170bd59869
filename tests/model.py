"""Hotels once more, in the words of [13] and [14], for the tests to compare with."""

from stayswap.errors import Apart, Barred, Early, Full, NoGuest, OtherGuests, Taken
from tests.helper import swapped, together


def ring_distance(one, other):
    """The guests less the rings, guests who keep their day being rings of one."""
    holder = {day: guest for guest, (_, day) in enumerate(one)}
    waiting = set(range(len(one)))
    many = len(one)
    while waiting:
        guest = start = min(waiting)
        many -= 1
        while guest in waiting:
            waiting.remove(guest)
            guest = holder[other[guest][1]]
        assert guest == start
    return many


def why_barred(one, other):
    for guest, stay in enumerate(one):
        if stay[0] != other[guest][0]:
            return guest
    if {day for _, day in one} != {day for _, day in other}:
        return "days"
    return None


def exchange(stays, one, other):
    for guest in (one, other):
        if guest not in range(len(stays)):
            return None, (NoGuest, {"guest": guest})
    if one == other or not together(stays, one, other):
        return None, (Apart, {"one": one, "other": other})
    changed = swapped(stays, one, other)
    return changed, (changed[one][1], changed[other][1])


def run(stays, pairs):
    for pair in pairs:
        changed, result = exchange(stays, *pair)
        if changed is None:
            return None, result
        stays = changed
    return stays, len(pairs)


def go(stays, goal):
    if len(stays) != len(goal):
        return None, (OtherGuests, {"many": len(goal)})
    reason = why_barred(stays, goal)
    if reason is not None:
        return None, (Barred, {"reason": reason})
    return tuple(tuple(stay) for stay in goal), ring_distance(stays, goal)


def come(stays, arrival, leaving):
    if leaving < arrival:
        return None, (Early, {"arrival": arrival})
    if leaving in [day for _, day in stays]:
        return None, (Taken, {"day": leaving})
    if len(stays) >= 12:
        return None, (Full, {"many": 12})
    return (*stays, (arrival, leaving)), len(stays) + 1


def strike(stays, guest):
    if guest not in range(len(stays)):
        return None, (NoGuest, {"guest": guest})
    return stays[:guest] + stays[guest + 1:], stays[guest]


def prolong(stays, guest, day):
    if guest not in range(len(stays)):
        return None, (NoGuest, {"guest": guest})
    arrival, before = stays[guest]
    if day < arrival:
        return None, (Early, {"arrival": arrival})
    if day in [stay[1] for at, stay in enumerate(stays) if at != guest]:
        return None, (Taken, {"day": day})
    return stays[:guest] + ((arrival, day),) + stays[guest + 1:], before


# Each returns the stays then and the result; or None, and the error's class and attributes.
DEEDS = {"exchange": exchange, "run": run, "go": go, "come": come, "strike": strike,
         "prolong": prolong}


class Model:
    """What a hotel is to be: the states of its stays, and its log."""

    def __init__(self, states, log=()):
        self.states = list(states)
        self.log = list(log)

    def deed(self, name, *given):
        """Return None and the result, or the error's class and its attributes."""
        changed, result = DEEDS[name](self.states[-1], *given)
        if changed is None:
            return result
        self.states.append(changed)
        return None, result

    def do(self, deeds, whole):
        before = list(self.states)
        results = []
        self.log.append(("in", len(deeds)))
        for name, *given in deeds:
            error, result = self.deed(name, *given)
            if error is not None:
                self.log.append(("out", len(results)))
                if whole:
                    self.states = before
                return error, result
            results.append(result)
            self.log.append(name)
        self.log.append(("out", len(results)))
        return None, results

    def undo(self):
        if len(self.states) == 1:
            return False
        self.states.pop()
        return True
