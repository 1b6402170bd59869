"""[16] and, for its function, [1] (f), [2] and [3]."""

import itertools
import random
import unittest

from stayswap.counting import lot_many, number_of, stays_at
from stayswap.desk import answers
from stayswap.errors import (Apart, BadLine, Barred, Early, Full, NoGuest, OtherGuests, Taken)
from stayswap.hotel import Hotel
from stayswap.leading import distance, rings
from stayswap.texts import pairs_text, stays_text, wish_text
from stayswap.wishes import wish_many
from tests.helper import (AWAY, CHAIN, DISTANT, DOZEN, FAR, LOTS, MIXED, NEVER, TRIO, TOGETHER,
                          Case, search)

START = "1-3 2-5 4-6"
FULL = stays_text(DOZEN)
THIRTEEN = FULL + " 40-50"
EXAMPLE = (START + "\nswap 0 1\nswap 1 2\nshow\nlot\non 4\nfar 1-6 2-3 4-5\nrings 1-3 2-6 4-5\n"
           "number 1-3 2-5 4-6\nundo\nundo")
ERRORS = (NoGuest, Apart, OtherGuests, Barred, Early, Taken, Full)

# One line of each form.
LINES = ["swap 0 1", "run 0/1 1/2", "go 1-6 2-3 4-5", "come 2 9", "strike 1", "prolong 0 8",
         "undo", "show", "on 3", "lot", "far 1-6 2-3 4-5", "number 1-6 2-3 4-5", "wish ? 3 ?",
         "rings 1-6 2-3 4-5"]

BAD_LINES = [
    "", " ", "  ", "-", "?", "0", "1-3", START, "nothing", "done", "refused", "help", "quit",
    "swap", "swap ", "swap 0", "swap 0 ", "swap 0 1 ", " swap 0 1", "swap  0 1", "swap 0  1",
    "swap 0 1 2", "swap 0/1", "swap 0-1", "swap 0,1", "swap -1 0", "swap 0 -1", "swap +1 0",
    "swap 00 1", "swap 0 01", "swap a b", "swap 0 ?", "swap ? ?", "swap\t0 1", "swap 0\t1",
    "SWAP 0 1", "Swap 0 1", "swap0 1", "exchange 0 1", "swap 0 1\r", "swap 0 " + "9" * 51,
    "swap 0 1.0", "swap -", "swap 0 \u0661", "swap 0 1;",
    "run", "run ", "run 0", "run 0 1", "run 0/1 ", "run  0/1", "run 0/1  1/2", "run 0/1 -",
    "run - 0/1", "run - -", "run --", "run 0-1", "run 0/1/2", "run 0/01", "run /", "run 0/",
    "run 0/1,1/2", "run 0/1 1/2 ?", "run (0, 1)", "run []", "run 0/" + "9" * 51,
    "go", "go ", "go 1-3 2-3", "go 4-3", "go 1-3 2-5 4-6 ", "go  1-3", "go 1-3 - 4-6", "go 1/3",
    "go - -", "go 01-3", "go 1-3  2-5", "go 1", "go ?", "go 1-3-5",
    "come", "come ", "come 2", "come 2 ", "come 2 9 1", "come 2-9", "come 2/9", "come 02 9",
    "come 2 09", "come  2 9", "come 2  9", "come 2 -9", "come ? 9", "come 2 " + "9" * 51, "come -",
    "strike", "strike ", "strike 0 1", "strike -1", "strike 01", "strike -", "strike ?",
    "strike  0", "strike 0 ", "strike 0-3", "strike a", "strike " + "1" * 51,
    "prolong", "prolong ", "prolong 0", "prolong 0 ", "prolong 0 8 9", "prolong 0 -8",
    "prolong 0 08", "prolong 0-8", "prolong 0 ?", "prolong  0 8", "prolong 0  8",
    "undo ", " undo", "undo 0", "undo -", "undo undo", "Undo", "undo.", "undo\r",
    "show ", " show", "show 0", "show -", "show show", "Show",
    "on", "on ", "on 1 2", "on -1", "on -", "on ?", "on 01", "on  1", "on 1 ", "on " + "9" * 51,
    "lot ", " lot", "lot 0", "lot -", "lots", "Lot",
    "far", "far ", "far 1-3 2-3", "far 4-3", "far 1-3  2-5", "far 1-3 -", "far ?", "far 1/3",
    "number", "number ", "number 0", "number 1-3 2-3", "number 4-3", "number 1-3 ", "number - -",
    "wish", "wish ", "wish 3  ?", "wish ?? 3", "wish 3 ? -", "wish -1", "wish 03", "wish 1-3",
    "wish 3 None ?", "wish 3 ? ? ", "wish  3", "wish 3,?", "wish *", "wish " + "9" * 51,
    "rings", "rings ", "rings 1-3 2-3", "rings 4-3", "rings 1-3  2-5", "rings ?", "rings 0 2 1",
    "on\n".strip() + "\x0b1", "lot\x0c", "lot\x00", "\ufefflot", "lot\u2028",
]


def ask(stays, *lines):
    return answers("\n".join([stays_text(stays), *lines]))


def beside(hotel, word, *given):
    """What the line is to be answered, from a hotel to which the same is done."""
    present = hotel.stays()
    return {
        "swap": lambda: "{} {}".format(*hotel.exchange(*given)),
        "run": lambda: str(hotel.run(*given)),
        "go": lambda: str(hotel.go(*given)),
        "come": lambda: str(hotel.come(*given)),
        "strike": lambda: "{}-{}".format(*hotel.strike(*given)),
        "prolong": lambda: str(hotel.prolong(*given)),
        "undo": lambda: "done" if hotel.undo() else "nothing",
        "show": lambda: stays_text(present),
        "on": lambda: " ".join(map(str, hotel.on(*given))) or "-",
        "lot": lambda: str(lot_many(present)),
        "far": lambda: str(distance(present, *given)),
        "number": lambda: str(number_of(present, *given)),
        "wish": lambda: str(wish_many(present, *given)),
        "rings": lambda: ", ".join(" ".join(map(str, ring))
                                   for ring in rings(present, *given)) or "-",
    }[word]()


def refused_or(call, *args):
    try:
        return call(*args)
    except ERRORS as error:
        return "refused " + error.__class__.__name__


class AnswersTest(Case):

    def test_example(self):
        self.answers(answers, EXAMPLE, wanted=["5 3", "refused Apart", "1-5 2-3 4-6", "4", "0 2",
                                               "1", "0 1 2", "0", "done", "nothing"])
        self.same(answers(text=EXAMPLE), answers(EXAMPLE))

    def test_no_other_lines(self):
        for text in ("-", START, FULL, stays_text(MIXED)):
            self.answers(answers, text, wanted=[])
            self.own_list(answers, text)
            self.own_list(answers, text + "\nshow\nundo")

    def test_one_line_of_each_form(self):
        wanted = ["5 3", "refused Apart", "2", "4", "2-5", "3", "nothing", START, "0 1", "4", "2", "3", "2",
                  "0 2 1"]
        for line, answer in zip(LINES, wanted, strict=True):
            self.answers(answers, START + "\n" + line, wanted=[answer])

    def test_one_behind_the_other(self):
        self.same(ask(TRIO, *LINES), [
            "5 3", "2", "1", "4", "2-3", "6", "done", "1-6 4-5 2-9", "0 2", "6",
            "refused Barred", "refused Barred", "0", "refused Barred"])

    def test_deeds_and_undo(self):
        self.same(ask(TRIO, "run -", "undo", "undo", "come 0 9", "go 1-3 2-5 4-9 0-6", "show",
                      "undo", "show", "strike 0", "show", "strike 0", "strike 0", "strike 0",
                      "show", "lot", "on 3", "undo", "show"),
                  ["0", "done", "nothing", "4", "1", "1-3 2-5 4-9 0-6", "done", START + " 0-9",
                   "1-3", "2-5 4-6 0-9", "2-5", "4-6", "0-9", "-", "1", "-", "done", "0-9"])

    def test_no_guests(self):
        self.same(ask((), "show", "lot", "on 0", "run -", "go -", "far -", "number -", "wish -",
                      "rings -", "undo", "undo", "undo", "swap 0 0", "strike 0", "come 0 0", "show"),
                  ["-", "1", "-", "0", "0", "0", "0", "1", "-", "done", "done", "nothing",
                   "refused NoGuest", "refused NoGuest", "1", "0-0"])

    def test_rings(self):
        self.same(ask(TOGETHER, "rings 4-5 4-9 4-7 4-4", "rings 4-5 4-4 4-9 4-7",
                      "rings 4-9 4-5 4-4 4-7", "rings 4-9 4-5 4-7 4-4"),
                  ["0 1, 2 3", "0 1 2", "-", "2 3"])

    def test_on(self):
        self.same(ask(TRIO, "on 0", "on 1", "on 2", "on 5", "on 6", "on 7", f"on {FAR}"),
                  ["-", "0", "0 1", "1 2", "2", "-", "-"])

    def test_great_numbers(self):
        nines = "9" * 50
        self.same(ask(DISTANT, f"swap {nines} 0", f"come {nines} {nines}", f"on {nines}",
                      f"come {nines} 3", f"strike {nines}", f"prolong 5 {nines}", "strike 5",
                      f"prolong 1 {nines}", "show", f"run 0/{nines}"),
                  ["refused NoGuest", "6", "5", "refused Early", "refused NoGuest", nines,
                   f"{nines}-{nines}", str(FAR + 1),
                   stays_text((DISTANT[0], (5, int(nines)), *DISTANT[2:])), "refused NoGuest"])

    def test_twelve_guests(self):
        self.same(ask(DOZEN, "lot", "wish " + "? " * 11 + "31", "on 20", "come 0 99", "strike 11",
                      "come 0 99", "show"),
                  ["479001600", "39916800", "0 1 2 3 4 5 6 7 8 9 10 11", "refused Full", "11-31",
                   "12", stays_text(DOZEN[:11] + ((0, 99),))])

    def test_sixty_lines(self):
        self.same(ask(TRIO, *["swap 0 1", "undo"] * 40), ["5 3", "done"] * 40)

    def test_is_another_hotel_each_time(self):
        self.same([answers(EXAMPLE) for _ in range(3)], [answers(EXAMPLE)] * 3)


class RefusedTest(Case):

    def refused(self, stays, line, name):
        self.same(ask(stays, line, "undo", "show"),
                  ["refused " + name, "nothing", stays_text(stays)])

    def test_no_guest(self):
        for line in ("swap 3 0", "swap 0 3", "run 0/1 3/0", "run 0/9", "strike 3", "prolong 3 0",
                     "prolong 3 3", "swap 3 3", f"strike {FAR}"):
            self.refused(TRIO, line, "NoGuest")

    def test_apart(self):
        for line in ("swap 0 2", "swap 2 0", "swap 1 1", "run 0/1 1/2", "run 0/1 2/2 9/9"):
            self.refused(TRIO, line, "Apart")

    def test_other_guests(self):
        for word in ("go", "far", "number", "rings"):
            for stays in ("-", "1-3", START + " 7-9", FULL, THIRTEEN, stays_text(AWAY)):
                self.refused(TRIO, word + " " + stays, "OtherGuests")
        for wish in ("-", "?", "? ?", "? ? ? ?", "5 5", "1 2 3 4", "? " * 39 + "?"):
            self.refused(TRIO, "wish " + wish, "OtherGuests")

    def test_barred(self):
        for word in ("go", "far", "number", "rings"):
            for stays in ("1-6 1-3 4-5", "1-3 2-5 4-7", "0-3 2-5 4-6"):
                self.refused(TRIO, word + " " + stays, "Barred")

    def test_early(self):
        for line in ("come 7 4", "come 1 0", "come 4 3", "prolong 0 0", "prolong 2 3"):
            self.refused(TRIO, line, "Early")
        self.refused(DOZEN, "come 99 20", "Early")

    def test_taken(self):
        for line in ("come 0 3", "come 6 6", "prolong 0 5", "prolong 1 6", "prolong 2 5"):
            self.refused(TRIO, line, "Taken")
        self.refused(DOZEN, "come 0 20", "Taken")

    def test_full(self):
        self.refused(DOZEN, "come 0 99", "Full")
        self.refused(NEVER, f"come 0 {FAR}", "Full")

    def test_goes_on_behind_it(self):
        self.same(ask(TRIO, "swap 0 1", "swap 0 0", "come 5 4", "undo", "strike 9", "undo"),
                  ["5 3", "refused Apart", "refused Early", "done", "refused NoGuest", "nothing"])

    def test_wishes_that_nobody_meets_are_answered(self):
        self.same(ask(TRIO, "wish 5 5 ?", "wish 7 ? ?", "wish ? ? 3", "wish ? ? ?", "wish 3 5 6"),
                  ["0", "0", "0", "4", "1"])


class BadLineTest(Case):

    def bad(self, at, text):
        with self.subTest(text=text):
            self.refuses(BadLine, {"at": at}, answers, text)

    def test_each_bad_line(self):
        for line in BAD_LINES:
            self.bad(1, START + "\n" + line)
            self.bad(1, START + "\n" + line + "\nshow")
            self.bad(1, START + "\n" + line + "\n" + line)
            self.bad(2, START + "\nswap 0 0\n" + line)
            self.bad(4, "\n".join([START, "undo", "strike 9", "show", line, "", "undo"]))

    def test_each_form_in_the_middle_is_good(self):
        for line in LINES:
            self.bad(2, "\n".join([START, line, "", line]))

    def test_empty_lines(self):
        self.bad(1, START + "\n")
        self.bad(1, "-\n")
        self.bad(2, START + "\nshow\n")
        self.bad(1, START + "\n\nshow")
        self.bad(11, EXAMPLE + "\n")
        self.bad(11, EXAMPLE + "\n\n")

    def test_first_line(self):
        for line in ("", " ", "--", "- ", " -", "0", "1-3 2-3", "4-3", START + " ", " " + START,
                     "1-3  2-5", "01-3", "1/3", "?", "show", "undo", "swap 0 1", START + "\r",
                     "1-" + "9" * 51, "go " + START, "1-3, 2-5", "1-3\t2-5", "\ufeff" + START,
                     THIRTEEN, stays_text([(k, 100 + k) for k in range(40)])):
            for behind in ("", "\n", "\nshow", "\nnothing", "\n" + START):
                self.bad(0, line + behind)

    def test_twelve_guests_at_first(self):
        self.same(answers(FULL + "\nundo"), ["nothing"])
        self.bad(0, THIRTEEN)
        self.bad(0, THIRTEEN + "\nundo")
        self.bad(1, FULL + "\nundo ")

    def test_other_ends_of_lines(self):
        for end in ("\r\n", "\r", "\x0b", "\x0c", "\x1c", "\x85", "\u2028", ";", "\\n"):
            self.bad(0, START + end + "show")
            self.bad(1, START + "\nlot" + end + "show")

    def test_is_a_value_error(self):
        with self.assertRaises(ValueError):
            answers("")


class BesideHotelTest(Case):
    """Random lines, beside a hotel to which the same is done."""

    def number(self, chosen, stays):
        days = [day for stay in stays for day in stay]
        return chosen.choice([chosen.randrange(13), chosen.randrange(40), chosen.choice([0, *days]),
                              chosen.randrange(max(1, len(stays))), 10 ** 50 - 1])

    def stays(self, chosen, stays):
        other = stays_at(stays, chosen.randrange(lot_many(stays)))
        if chosen.random() < 0.2:
            other += ((3, 8 * FAR),)
        if chosen.random() < 0.2 and other:
            other = ((0, other[0][1]), *other[1:])
        return other

    def request(self, chosen, stays):
        """The line and what follows its word."""
        word = chosen.choice(LINES + ["come 0 0", "swap 0 1"] * 3).split()[0]
        if word in ("undo", "show", "lot"):
            return word, ()
        if word in ("strike", "on"):
            given = (self.number(chosen, stays),)
        elif word in ("swap", "come", "prolong"):
            given = (self.number(chosen, stays), self.number(chosen, stays))
        elif word == "run":
            some = [(chosen.randrange(5), chosen.randrange(5)) for _ in range(chosen.randrange(4))]
            return "run " + pairs_text(some), (some,)
        elif word == "wish":
            wish = tuple(chosen.choice([None, day]) for _, day in self.stays(chosen, stays))
            return "wish " + wish_text(wish), (wish,)
        else:
            other = self.stays(chosen, stays)
            return word + " " + stays_text(other), (other,)
        return " ".join([word, *map(str, given)]), given

    def test_random_lines(self):
        refused = set()
        for seed in range(80):
            chosen = random.Random(seed)
            stays = chosen.choice([*LOTS, CHAIN, NEVER, DOZEN, MIXED])
            hotel = Hotel(stays)
            lines, wanted = [], []
            for _ in range(59):
                line, given = self.request(chosen, hotel.stays())
                lines.append(line)
                wanted.append(refused_or(beside, hotel, line.split()[0], *given))
            self.same(ask(stays, *lines), wanted)
            refused |= {answer for answer in wanted if answer.startswith("refused")}
            # What is answered does not depend on the lines behind.
            self.same(ask(stays, *lines[:20]), wanted[:20])
        self.assertEqual(refused, {"refused " + error.__name__ for error in ERRORS})

    def test_small_lots(self):
        for stays in LOTS:
            found = sorted(search(stays))
            for number, other in list(enumerate(found))[:30]:
                text = stays_text(other)
                self.same(ask(stays, "number " + text, "far " + text, "go " + text, "show"),
                          [str(number), str(search(stays)[other]), str(search(stays)[other]), text])

    def test_all_pairs(self):
        for stays in LOTS:
            for one, other in itertools.product(range(len(stays) + 1), repeat=2):
                hotel = Hotel(stays)
                wanted = refused_or(beside, hotel, "swap", one, other)
                self.same(ask(stays, f"swap {one} {other}", "show"),
                          [wanted, stays_text(hotel.stays())])


if __name__ == "__main__":
    unittest.main()
