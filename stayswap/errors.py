"""The errors of the package, each with the values that it names as attributes.

No error makes a text of its values: they may be numbers of any size, and Python refuses to
write out very long ones.
"""


class NoGuest(LookupError):
    """There is no guest with this number."""

    def __init__(self, guest):
        self.guest = guest


class NoNumber(LookupError):
    """Nothing has this number."""

    def __init__(self, number):
        self.number = number


class NoDeed(LookupError):
    """There are not so many deeds."""

    def __init__(self, many):
        self.many = many


class OtherGuests(ValueError):
    """The numbers of guests differ."""

    def __init__(self, many):
        self.many = many


class Obstacle(ValueError):
    """More guests come on this day or later than there are leaving days from it on."""

    def __init__(self, day):
        self.day = day


class Early(ValueError):
    """The leaving day is before this arrival."""

    def __init__(self, arrival):
        self.arrival = arrival


class Taken(ValueError):
    """A guest has this leaving day already."""

    def __init__(self, day):
        self.day = day


class BadDeed(ValueError):
    """The item at this index is no deed."""

    def __init__(self, at):
        self.at = at


class BadText(ValueError):
    """Nothing is written as this text."""

    def __init__(self, text):
        self.text = text


class BadLine(ValueError):
    """The line at this index has none of the forms of a line."""

    def __init__(self, at):
        self.at = at


class Apart(RuntimeError):
    """These two may not exchange: they are one guest, or share no day."""

    def __init__(self, one, other):
        self.one = one
        self.other = other


class Barred(RuntimeError):
    """The first stays do not lead to the second ones, for this reason."""

    def __init__(self, reason):
        self.reason = reason


class TooMany(OverflowError):
    """There are so many that they are not gone through one by one."""

    def __init__(self, many):
        self.many = many


class Full(OverflowError):
    """The hotel has room for this many guests and no more."""

    def __init__(self, many):
        self.many = many
