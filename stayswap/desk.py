"""A desk: lines of a text are answered by one hotel."""

from stayswap.counting import number_of
from stayswap.errors import (Apart, BadLine, BadText, Barred, Early, Full, NoGuest, OtherGuests,
                             Taken)
from stayswap.hotel import ROOM, Hotel
from stayswap.leading import distance, rings
from stayswap.texts import is_number, pairs_in, stays_in, stays_text, wish_in
from stayswap.wishes import wish_many

# How many numbers follow each of these words; other words are followed by a text.
NUMBERS = {"swap": 2, "come": 2, "strike": 1, "prolong": 2, "undo": 0, "show": 0, "on": 1,
           "lot": 0}


def answers(text):
    """Return the list of the answers to the lines behind the first one, which has the stays."""
    lines = text.split("\n")
    hotel = _hotel_of(lines[0])
    requests = [_request_at(lines, at) for at in range(1, len(lines))]
    return [_answer_or_refusal(hotel, word, given) for word, given in requests]


def _hotel_of(line):
    try:
        stays = stays_in(line)
    except BadText:
        raise BadLine(0) from None
    if len(stays) > ROOM:
        raise BadLine(0)
    return Hotel(stays)


def _request_at(lines, at):
    """Return the word of the line with this index and a list of what follows it."""
    try:
        return _request(lines[at])
    except BadText:
        raise BadLine(at) from None


def _request(line):
    word, _, rest = line.partition(" ")
    if word in NUMBERS:
        return word, _numbers_behind(line, NUMBERS[word])
    if word == "run":
        return word, [pairs_in(rest)]
    if word == "wish":
        return word, [wish_in(rest)]
    if word in ("go", "far", "number", "rings"):
        return word, [stays_in(rest)]
    raise BadText(line)


def _numbers_behind(line, many):
    words = line.split(" ")[1:]
    if len(words) != many or not all([is_number(word) for word in words]):
        raise BadText(line)
    return [int(word) for word in words]


def _answer_or_refusal(hotel, word, given):
    try:
        return _answer(hotel, word, given)
    except NoGuest:
        return "refused NoGuest"
    except Apart:
        return "refused Apart"
    except OtherGuests:
        return "refused OtherGuests"
    except Barred:
        return "refused Barred"
    except Early:
        return "refused Early"
    except Taken:
        return "refused Taken"
    except Full:
        return "refused Full"


def _answer(hotel, word, given):
    if word == "swap":
        return _blanks_between(hotel.exchange(*given))
    if word == "run":
        return str(hotel.run(*given))
    if word == "go":
        return str(hotel.go(*given))
    if word == "come":
        return str(hotel.come(*given))
    if word == "strike":
        return stays_text([hotel.strike(*given)])
    if word == "prolong":
        return str(hotel.prolong(*given))
    if word == "undo":
        return "done" if hotel.undo() else "nothing"
    return _told(hotel, word, given)


def _told(hotel, word, given):
    """Return the answer to a line that changes nothing."""
    present = hotel.stays()
    if word == "show":
        return stays_text(present)
    if word == "on":
        return _blanks_between(hotel.on(*given)) or "-"
    if word == "lot":
        return str(hotel.lot())
    if word == "far":
        return str(distance(present, *given))
    if word == "number":
        return str(number_of(present, *given))
    if word == "wish":
        return str(wish_many(present, *given))
    found = rings(present, *given)
    return ", ".join([_blanks_between(ring) for ring in found]) or "-"


def _blanks_between(numbers):
    return " ".join([str(number) for number in numbers])
