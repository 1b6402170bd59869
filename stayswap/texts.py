"""Stays, exchanges and wishes as texts: words with single blanks between."""

from stayswap.errors import BadText
from stayswap.stays import is_stays

DIGITS = "0123456789"
MOST_DIGITS = 50


def is_number(word):
    """Tell whether the word is a number: at most fifty digits, without leading zeros."""
    if not 1 <= len(word) <= MOST_DIGITS or not all([sign in DIGITS for sign in word]):
        return False
    return word == "0" or word[0] != "0"


def _text_of(words):
    # No word is empty, so only a text of no words is.
    return " ".join(words) or "-"


def _words_of(text):
    if text == "-":
        return []
    return text.split(" ")


def _pairs_of(text, sign):
    """Return the list of the pairs of numbers that the text has, with the sign between."""
    pairs = [word.split(sign) for word in _words_of(text)]
    for pair in pairs:
        if len(pair) != 2 or not is_number(pair[0]) or not is_number(pair[1]):
            raise BadText(text)
    return [(int(first), int(second)) for first, second in pairs]


def stays_text(stays):
    """Return the stays as a text."""
    return _text_of([f"{arrival}-{leaving}" for arrival, leaving in stays])


def pairs_text(pairs):
    """Return the exchanges as a text."""
    return _text_of([f"{one}/{other}" for one, other in pairs])


def wish_text(wish):
    """Return the wish as a text."""
    return _text_of(["?" if day is None else str(day) for day in wish])


def stays_in(text):
    """Return the stays that are written as this text."""
    stays = tuple(_pairs_of(text, "-"))
    if not is_stays(stays):
        raise BadText(text)
    return stays


def pairs_in(text):
    """Return the exchanges that are written as this text."""
    return _pairs_of(text, "/")


def wish_in(text):
    """Return the wish that is written as this text."""
    words = _words_of(text)
    if not all([word == "?" or is_number(word) for word in words]):
        raise BadText(text)
    return tuple([None if word == "?" else int(word) for word in words])
