"""[15] and, for its functions, [2] and [3]."""

import itertools
import unittest

from stayswap.errors import BadText
from stayswap.texts import pairs_in, pairs_text, stays_in, stays_text, wish_in, wish_text
from tests.helper import (AWAY, CHAIN, DISTANT, DOZEN, FAR, LOTS, MIXED, NEVER, TRIO, TOGETHER,
                          Case, as_lists, forms, search, stays_forms)

MANY = tuple((guest, 100 + guest) for guest in range(40))
FIFTY = 10 ** 50 - 1
PAIRS = [[], [(0, 0)], [(0, 1), (2, 0)], [(1, 0)], [(0, 1)] * 100, [(FAR, 3), (7, FAR)],
         [(12, 40), (0, FIFTY)]]
WISHES = [(), (None,), (0,), (3, None), (None, 12), (FAR, None, 0), (FIFTY,), (5, 5, 5),
          (None,) * 40, tuple(range(60))]

# Words that are no number.
NO_NUMBERS = ["", "00", "01", "007", "-1", "+1", "1.", "1.0", "1e3", "0x1", "1_0", "a", "O", "l",
              "1a", "a1", "None", "True", ",", "1,", "\u0661", "\u00b2", "\uff11", "1\u0661", "\u2460",
              "1\n", "\n1", "\t1", "1\t", "1\r", "1\x00", "\ud800", "1\u00a0", "\u00bd", "\u4e00",
              "9" * 51, "1" + "0" * 50, "0" * 50, "0" * 51, "1" * 5000, "0%", "*", "?1", "1?"]
NO_NUMBERS += ["1" + sign for sign in map(chr, range(128)) if sign not in "0123456789"]
# Texts that are none, whatever they should be.
NO_TEXTS = ["", " ", "  ", "- ", " -", "- -", "--", "-\n", "\n", "\n-", "\u2013", "\u2010", "None",
            "()", "[]", "((1, 3),)", "-1", "1-", "/", "1/", "/1", "-/-", "a", "\x00", "\ud800"]


# All numbers of up to four digits, each 0 or 1.
SMALL = [0, 1, 10, 11, 100, 101, 110, 111, 1000, 1001, 1010, 1011, 1100, 1101, 1110, 1111]


def written_stays():
    """All texts of at most one stay with such numbers, and what they are."""
    texts = {f"{one}-{other}": ((one, other),) for one in SMALL for other in SMALL if one <= other}
    return texts | {"-": ()}


def written_pairs():
    texts = {f"{one}/{other}": [(one, other)] for one in SMALL for other in SMALL}
    return texts | {"-": []}


def written_wishes():
    """All texts of at most two such items, and what they are."""
    items = {"?": None} | {str(number): number for number in SMALL}
    return {"-": ()} | {" ".join(words): tuple(items[word] for word in words)
                        for many in (1, 2) for words in itertools.product(items, repeat=many)}


def numbers():
    return ["0", "1", "9", "10", "19", "90", "12345678901234567890", str(FAR), "9" * 50,
            "1" + "0" * 49]


class WritingTest(Case):

    def test_examples(self):
        self.same([stays_text(TRIO), pairs_text([(0, 1), (2, 0)]), wish_text((3, None)),
                   stays_text(())], ["1-3 2-5 4-6", "0/1 2/0", "3 ?", "-"])

    def test_nothing(self):
        for none in ((), []):
            self.answers(stays_text, none, wanted="-")
            self.answers(pairs_text, none, wanted="-")
            self.answers(wish_text, none, wanted="-")

    def test_stays(self):
        self.answers(stays_text, ((3, 3),), wanted="3-3")
        self.answers(stays_text, ((0, 0),), wanted="0-0")
        self.answers(stays_text, ((0, FAR),), wanted="0-1" + "0" * 40)
        self.answers(stays_text, TOGETHER, wanted="4-9 4-5 4-4 4-7")
        self.answers(stays_text, ((FIFTY, FIFTY),), wanted="9" * 50 + "-" + "9" * 50)

    def test_pairs(self):
        self.answers(pairs_text, [(0, 0)], wanted="0/0")
        self.answers(pairs_text, [(1, 0)], wanted="1/0")
        self.answers(pairs_text, [(12, FAR)], wanted="12/1" + "0" * 40)

    def test_wishes(self):
        self.answers(wish_text, (None,), wanted="?")
        self.answers(wish_text, (0,), wanted="0")
        self.answers(wish_text, (None, 12, None), wanted="? 12 ?")
        self.answers(wish_text, (FIFTY,), wanted="9" * 50)

    def test_lists_and_names(self):
        for form in forms(TRIO):
            self.answers(stays_text, form, wanted="1-3 2-5 4-6")
        for form in stays_forms(MIXED):
            self.answers(stays_text, stays=form, wanted=stays_text(MIXED))
        for form in forms([(0, 1), (2, 0)]):
            self.answers(pairs_text, form, wanted="0/1 2/0")
            self.answers(pairs_text, pairs=form, wanted="0/1 2/0")
        for form in forms((3, None)):
            self.answers(wish_text, form, wanted="3 ?")
            self.answers(wish_text, wish=form, wanted="3 ?")


class BackTest(Case):

    def test_examples(self):
        self.same([stays_in("1-3 1-4"), pairs_in("-"), wish_in("? 12")],
                  [((1, 3), (1, 4)), [], (None, 12)])

    def test_stays(self):
        for stays in LOTS + [AWAY, NEVER, CHAIN, DOZEN, MIXED, MANY, ((FIFTY, FIFTY),)]:
            for form in stays_forms(stays):
                self.answers(stays_in, stays_text(form), wanted=stays)
                self.answers(stays_in, text=stays_text(form), wanted=stays)
        for stays in search(TRIO):
            self.answers(stays_in, stays_text(stays), wanted=stays)

    def test_pairs(self):
        for pairs in PAIRS:
            self.answers(pairs_in, pairs_text(pairs), wanted=pairs)
            self.answers(pairs_in, text=pairs_text(as_lists(pairs)), wanted=pairs)

    def test_wishes(self):
        for wish in WISHES:
            self.answers(wish_in, wish_text(wish), wanted=wish)
            self.answers(wish_in, text=wish_text(list(wish)), wanted=wish)

    def test_nothing(self):
        self.answers(stays_in, "-", wanted=())
        self.answers(pairs_in, "-", wanted=[])
        self.answers(wish_in, "-", wanted=())

    def test_own_list(self):
        for text in ("-", "0/1", "0/1 2/0 0/0"):
            self.own_list(pairs_in, text)


class ReadingTest(Case):

    def bad(self, call, text):
        with self.subTest(call=call.__name__, text=text):
            self.refuses(BadText, {"text": text}, call, text)

    def test_example(self):
        self.refuses(BadText, {"text": "1-3 2-3"}, stays_in, "1-3 2-3")

    def test_numbers(self):
        for word in numbers():
            self.answers(pairs_in, word + "/0", wanted=[(int(word), 0)])
            self.answers(pairs_in, "1/" + word, wanted=[(1, int(word))])
            self.answers(wish_in, word, wanted=(int(word),))
            self.answers(wish_in, "? " + word, wanted=(None, int(word)))
            self.answers(stays_in, "0-" + word, wanted=((0, int(word)),))
            self.answers(stays_in, word + "-" + "9" * 50, wanted=((int(word), FIFTY),))

    def test_no_numbers(self):
        for word in NO_NUMBERS:
            for text in (word, "3 " + word, word + " 3", "? " + word + " ?"):
                self.bad(wish_in, text)
            for text in (word + "/0", "0/" + word, "1/2 " + word + "/0", "0/" + word + " 1/2"):
                self.bad(pairs_in, text)
            for text in (word + "-9", "0-" + word, "1-2 " + word + "-9", "0-" + word + " 1-2"):
                self.bad(stays_in, text)

    def test_no_texts(self):
        for text in NO_TEXTS:
            for call in (stays_in, pairs_in, wish_in):
                self.bad(call, text)

    def test_blanks(self):
        for call, words in [(stays_in, ["1-3", "2-5"]), (pairs_in, ["1/3", "2/5"]),
                            (wish_in, ["1", "?"])]:
            call(" ".join(words))
            for text in [" " + words[0], words[0] + " ", "  ".join(words), "\n".join(words),
                         "\t".join(words), ",".join(words), ", ".join(words), "".join(words),
                         " ".join(words) + " ", " " + " ".join(words), " ".join(words) + "\n",
                         "\u00a0".join(words), "\x0b".join(words), "\r\n".join(words)]:
                self.bad(call, text)

    def test_a_hyphen_beside_words(self):
        for call, word in [(stays_in, "1-3"), (pairs_in, "1/3"), (wish_in, "1"), (wish_in, "?")]:
            for text in ("- " + word, word + " -", word + " - " + word, "- -"):
                self.bad(call, text)

    def test_texts_of_the_others(self):
        for text in ("1-3", "1-3 2-5"):
            self.bad(pairs_in, text)
            self.bad(wish_in, text)
        for text in ("1/3", "1/3 2/5"):
            self.bad(stays_in, text)
            self.bad(wish_in, text)
        for text in ("?", "1", "1 2", "? 1", "12"):
            self.bad(stays_in, text)
            self.bad(pairs_in, text)
        for text in ("1-3 2/5", "1-3 2", "1-3 ?", "?-3", "1-?"):
            self.bad(stays_in, text)
        for text in ("1/3 2-5", "1/3 2", "1/3 ?", "?/3", "1/?"):
            self.bad(pairs_in, text)

    def test_parts(self):
        for text in ("1-2-3", "1--3", "-1-3", "1-3-", "1-", "-3", "--", "1-2-", "1 - 3", "1- 3",
                     "1-3 2", "1-3 2-", "1-3 2-4-5"):
            self.bad(stays_in, text)
        for text in ("1/2/3", "1//3", "/1/3", "1/3/", "1/", "/3", "//", "1 / 3", "1/ 3", "1\\3",
                     "1/3 2", "1/3 2/", "1/3 2/4/5"):
            self.bad(pairs_in, text)
        for text in ("??", "1?", "?1", "? ??", "? -1", "?-", "*", "? None", "null"):
            self.bad(wish_in, text)

    def test_no_stays(self):
        for text in ("4-3", "1-0", "1-3 5-4", "1-3 2-3", "3-3 3-3", "1-3 2-4 0-3",
                     "1" + "0" * 49 + "-" + "9" * 49):
            self.bad(stays_in, text)

    def test_what_stays_may_not_be_others_may(self):
        self.answers(pairs_in, "4/3 4/3 3/3", wanted=[(4, 3), (4, 3), (3, 3)])
        self.answers(wish_in, "3 3 3", wanted=(3, 3, 3))

    def test_all_short_texts(self):
        for signs, call, most, written in [("01- ", stays_in, 5, written_stays()),
                                           ("01/ ", pairs_in, 5, written_pairs()),
                                           ("01?- ", wish_in, 4, written_wishes())]:
            for size in range(most + 1):
                for text in map("".join, itertools.product(signs, repeat=size)):
                    if text in written:
                        self.same(call(text), written[text])
                    else:
                        self.bad(call, text)

    def test_is_a_value_error(self):
        for call in (stays_in, pairs_in, wish_in):
            with self.assertRaises(ValueError):
                call("")


if __name__ == "__main__":
    unittest.main()
