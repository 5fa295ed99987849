"""Point 4: names, words, figures, days, worths and amounts; point 3: what counts as a number."""

import unittest

from callcoin.names import is_amount, is_day, is_figures, is_name, is_number, is_within, is_word, is_worth

LETTERS = "abcdefghijklmnopqrstuvwxyz"
OTHER_SIGNS = [chr(code) for code in range(32, 127) if chr(code) not in LETTERS] + ["\n"]
OWN_WORDS = (
    "pound", "shilling", "penny", "groat", "york", "ann", "bob", "made", "paid", "day", "in", "at", "by", "level",
    "called", "least", "greatest", "call", "strike", "bring", "shut", "give", "clip", "lend", "pay", "held", "worth",
    "left", "dead", "alike", "none", "short", "for", "yes", "no", "refused", "money", "kind", "people",
)


class NameTest(unittest.TestCase):
    def check(self, text, answer):
        with self.subTest(text):
            self.assertIs(is_name(text), answer)

    def test_lengths(self):
        for length in range(1, 9):
            self.check("a" * length, True)
        self.check("", False)
        for length in (9, 10, 16, 1000):
            self.check("a" * length, False)

    def test_each_small_letter_at_any_place(self):
        for letter in LETTERS:
            for text in (letter, letter + "bc", "a" + letter + "c", "ab" + letter, letter * 8):
                self.check(text, True)
            self.check(letter * 9, False)

    def test_every_other_sign_at_any_place(self):
        for sign in OTHER_SIGNS:
            for text in (sign, sign + "bc", "a" + sign + "c", "ab" + sign, "abcdefg" + sign, sign + "abcdefg"):
                self.check(text, False)

    def test_great_letters(self):
        for text in ("Pound", "poUnd", "pounD", "POUND", "A"):
            self.check(text, False)

    def test_the_documents_own_words(self):
        for word in OWN_WORDS:
            self.check(word, True)

    def test_longer_words_are_no_names(self):
        for word in ("shillings", "farthings", "sovereign", "halfcrown"):
            self.check(word, False)


class WordTest(unittest.TestCase):
    def test_one_small_letter_or_more(self):
        for text in ("a", "z", "greatest", "a" * 9, LETTERS * 5):
            with self.subTest(text):
                self.assertIs(is_word(text), True)

    def test_others_are_none(self):
        self.assertIs(is_word(""), False)
        for sign in OTHER_SIGNS:
            for text in (sign, sign + "b", "a" + sign + "b", "a" + sign):
                with self.subTest(text):
                    self.assertIs(is_word(text), False)


class FiguresTest(unittest.TestCase):
    def test_figures(self):
        for text in ("0", "1", "9", "10", "1000", "1234567890", "9" * 15, "1" + "0" * 15, "9" * 16):
            with self.subTest(text):
                self.assertIs(is_figures(text), True)

    def test_others_are_none(self):
        for text in ("", "00", "01", "007", "0" * 16, "0" + "1" * 15, "9" * 17, "1" + "0" * 16, "9" * 5000):
            with self.subTest(text):
                self.assertIs(is_figures(text), False)

    def test_no_other_sign_at_any_place(self):
        for sign in OTHER_SIGNS + list(LETTERS):
            if sign not in "0123456789":
                for text in (sign, sign + "12", "1" + sign + "2", "12" + sign):
                    with self.subTest(text):
                        self.assertIs(is_figures(text), False)


class NumberTest(unittest.TestCase):
    def test_from_least_to_most(self):
        for number, answer in ((1, False), (2, True), (3, True), (4, True), (5, False), (-2, False)):
            with self.subTest(number):
                self.assertIs(is_within(number, 2, 4), answer)

    def test_truths_are_no_numbers(self):
        self.assertIs(is_within(True, 0, 1), False)
        self.assertIs(is_within(False, 0, 1), False)

        self.assertIs(is_number(True), False)
        self.assertIs(is_number(False), False)

    def test_numbers_of_any_size(self):
        for number in (0, 1, -1, 10 ** 5000, -10 ** 5000):
            self.assertIs(is_number(number), True)

    def test_days_and_worths(self):
        for asked, most in ((is_day, 9999), (is_worth, 1000000)):
            for number in (0, 1, most - 1, most):
                with self.subTest((asked, number)):
                    self.assertIs(asked(number), True)
            for number in (-1, most + 1, -most, 10 ** 20, True, False, "made", None):
                with self.subTest((asked, number)):
                    self.assertIs(asked(number), False)

    def test_amounts(self):
        for number in (0, 1, 10 ** 15 - 1, 10 ** 15):
            with self.subTest(number):
                self.assertIs(is_amount(number), True)
        for number in (-1, 10 ** 15 + 1, 10 ** 16, -10 ** 15, True, False):
            with self.subTest(number):
                self.assertIs(is_amount(number), False)


if __name__ == "__main__":
    unittest.main()
