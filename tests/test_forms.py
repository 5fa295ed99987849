"""Points 15 and 16."""

import itertools
import random
import unittest

from callcoin.calls import Calls
from callcoin.errors import TooMany
from callcoin.forms import form, form_worth, parted
from callcoin.names import is_day, is_name
from callcoin.terms import Called, Greatest, Least, Level
from callcoin.termtexts import read_term
from tests.cases import CoinCase
from tests.rules import CASES, chance_book, chance_term

MOST = 1000000
M, P = ("made", None), ("paid", None)
ALL_CALLS = (M, ("made", "bath"), ("made", "york"), P, ("paid", "bath"), ("paid", "york"), (0, None), (0, "bath"),
             (3, None), (3, "bath"), (3, "york"), (20, None), (100, "bath"), (9999, "york"))
# Each row has texts of rules that tell the same in every book and case; those of two rows do not.
ALIKE = (
    ("made", "least(made, made)", "greatest(made, made)", "least(made, greatest(made, paid))",
     "greatest(made, least(made, paid))", "greatest(made, at 0)", "least(made, at 1000000)",
     "greatest(made, least(made, at 30))", "least(made, greatest(made, day 3 in york, at 7))"),
    ("paid", "greatest(least(paid, made), paid)"),
    ("made in york", "least(made in york, greatest(made in york, made))"),
    ("day 3", "greatest(day 3, least(day 3, day 4))"),
    ("at 0", "least(at 0, made)", "least(made, paid, at 0)", "least(at 0, at 5)"),
    ("at 30", "greatest(at 30, least(made, at 30))", "least(at 30, greatest(at 30, made))", "least(at 30, at 31)"),
    ("at 1000000", "greatest(made, at 1000000)", "greatest(at 1000000, at 5)"),
    ("least(made, paid)", "least(paid, made)", "least(paid, made, paid)", "least(greatest(made, at 0), paid)"),
    ("greatest(made, paid)", "greatest(paid, made)", "greatest(paid, least(made, greatest(made, paid)))"),
    ("least(made, at 30)", "least(at 30, made, at 31)", "least(at 30, greatest(made, least(made, paid)))"),
    ("greatest(made, at 30)", "greatest(at 30, made, at 29)"),
    ("least(made, greatest(paid, day 3))", "greatest(least(made, paid), least(made, day 3))"),
    ("greatest(made, least(paid, day 3))", "least(greatest(made, paid), greatest(made, day 3))"),
    ("least(greatest(made, at 5), at 9)", "greatest(least(made, at 9), at 5)", "greatest(at 5, least(at 9, made))"),
    ("greatest(least(made, paid), least(made, day 3), least(paid, day 3))",
     "least(greatest(made, paid), greatest(made, day 3), greatest(paid, day 3))"),
)


def lowered(term, high):
    """The worth of a rule where the calls in high are worth 1000000, and the others 0, by what it tells."""
    word, *parts = term.told()
    if word == "level":
        return parts[0]
    if word == "called":
        return MOST if tuple(parts) in high else 0
    return (min if word == "least" else max)([lowered(inner, high) for inner in term.terms])


def slow_form(term, order):
    """The form by the words of point 15, order being a list of calls, in their order, with all of the rule's."""
    pairs = []
    for many in range(len(order) + 1):
        for chosen in itertools.combinations(order, many):
            lacking = [lowered(term, [call for call in chosen if call != lost]) for lost in chosen]
            if all([lowered(term, chosen) > other for other in lacking or [0]]):
                pairs.append((chosen, lowered(term, chosen)))
    return tuple(pairs)


def called(*calls):
    """A rule that has just these calls in it, two or more, in this order."""
    if len(calls) <= 8:
        return Least([Called(*call) for call in calls])
    return Least([called(*calls[:7]), called(*calls[7:])])


class FormTest(CoinCase):
    def test_forms(self):
        rows = (
            ("at 0", ()), ("at 1", (((), 1),)), ("at 30", (((), 30),)), ("at 1000000", (((), MOST),)),
            ("made", (((M,), MOST),)), ("paid in york", (((("paid", "york"),), MOST),)),
            ("day 3", ((((3, None),), MOST),)),
            ("least(made, at 30)", (((M,), 30),)), ("least(made, at 0)", ()),
            ("greatest(made, at 30)", (((), 30), ((M,), MOST))), ("greatest(made, at 0)", (((M,), MOST),)),
            ("greatest(made, at 1000000)", (((), MOST),)),
            ("least(paid, made)", (((M, P), MOST),)), ("greatest(paid, made)", (((M,), MOST), ((P,), MOST))),
            ("greatest(least(made, at 30), paid)", (((M,), 30), ((P,), MOST))),
            ("greatest(least(made, at 30), least(made, paid))", (((M,), 30), ((M, P), MOST))),
            ("greatest(at 5, least(paid, at 9), least(made, paid))", (((), 5), ((P,), 9), ((M, P), MOST))),
            ("greatest(at 9, least(paid, at 9), made)", (((), 9), ((M,), MOST))),
            ("least(greatest(made, at 5), at 9)", (((), 5), ((M,), 9))),
        )
        for text, told in rows:
            with self.subTest(text):
                self.assertEqual(form(read_term(text)), told)

    def test_tuples_throughout(self):
        told = form(read_term("greatest(least(made, paid in york), at 3)"))
        self.assertEqual([type(part) for part in (told,) + told], [tuple] * 3)
        for calls, strength in told:
            self.assertEqual([type(part) for part in (calls,) + calls], [tuple] * (1 + len(calls)))
            self.assertIs(type(strength), int)

    def test_the_order_of_calls(self):
        for calls in itertools.combinations(ALL_CALLS, 3):
            for mixed in (calls, calls[::-1], (calls[1], calls[2], calls[0])):
                self.assertEqual(form(called(*mixed)), ((calls, MOST),))
        self.assertEqual(form(called((10, None), (9, None))), ((((9, None), (10, None)), MOST),))
        self.assertEqual(form(called((5, "b"), (5, "ab"), (5, "a"))), ((((5, "a"), (5, "ab"), (5, "b")), MOST),))

    def test_the_order_of_pairs(self):
        for calls in itertools.combinations(ALL_CALLS, 3):
            one, two, three = [Called(*call) for call in calls]
            term = Greatest([Least([two, three]), Least([one, three]), Least([two, one]), Level(5)])
            self.assertEqual(form(term), (((), 5), ((calls[0], calls[1]), MOST), ((calls[0], calls[2]), MOST),
                                          ((calls[1], calls[2]), MOST)))
        four = [Called(*call) for call in ALL_CALLS[:4]]
        term = Greatest([Least([four[1], four[2]]), Least([four[0], four[3]]), Level(1),
                         Least([four[2], Level(7)]), Least([four[0], Level(9)])])
        self.assertEqual(form(term), (((), 1), ((ALL_CALLS[0],), 9), ((ALL_CALLS[2],), 7),
                                      ((ALL_CALLS[0], ALL_CALLS[3]), MOST), ((ALL_CALLS[1], ALL_CALLS[2]), MOST)))

    def test_against_the_words(self):
        chance = random.Random(16)
        for turn in range(300):
            order = sorted(chance.sample(range(len(ALL_CALLS)), chance.randrange(1, 6)))
            calls = [ALL_CALLS[place] for place in order]
            term = chance_term(chance, calls, 4)
            self.assertEqual(form(term), slow_form(term, calls))

    def test_rules_that_tell_the_same_have_one_form_others_have_not(self):
        forms = [{form(read_term(text)) for text in row} for row in ALIKE]
        self.assertEqual([len(row) for row in forms], [1] * len(ALIKE))
        self.assertEqual(len(set.union(*forms)), len(ALIKE))

    def test_6_calls_and_7(self):
        for calls in (ALL_CALLS[:6], ALL_CALLS[8:14], tuple([(day, None) for day in range(6)])):
            self.assertEqual(form(called(*calls)), ((calls, MOST),))
            self.assertEqual(form(called(*calls, *calls)), ((calls, MOST),))
            self.assertEqual(len(form(Greatest([Called(*call) for call in calls]))), 6)
        for calls in (ALL_CALLS[:7], ALL_CALLS[7:14], tuple([(day, None) for day in range(7)]), ALL_CALLS):
            self.refused(TooMany, form, called(*calls))
            self.refused(TooMany, form, Least([called(*calls), Level(0)]))


class FormWorthTest(CoinCase):
    def test_it_tells_what_the_rule_tells(self):
        chance = random.Random(17)
        for turn in range(200):
            calls = chance.sample(ALL_CALLS, chance.randrange(1, 7))
            term = chance_term(chance, calls, 4)
            told = form(term)
            for case in CASES:
                book = chance_book(chance)
                self.assertEqual(form_worth(told, book, "groat", case), term.worth(book, "groat", case))
                self.assertEqual(form_worth(told, book, "penny", list(case)), term.worth(book, "penny", case))

    def test_of_forms(self):
        calls = Calls()
        for row in (("york", "groat", 2, 20), ("york", "groat", 5, 50), ("bath", "groat", 0, 7)):
            calls.tell(*row)
        rows = (((), 0), ((((), 30),), 30), ((((M,), MOST),), 20), ((((M,), 15),), 15), ((((P,), MOST),), 50),
                ((((M, P), MOST),), 20), ((((M,), MOST), ((P,), 30)), 30), ((((("made", "bath"),), MOST),), 7),
                ((((), 25), ((M,), MOST)), 25), (((((1, None),), MOST),), 0), ((((), 3), (((3, None), P), 18)), 18))
        for told, worth in rows:
            with self.subTest(told):
                self.assertEqual(form_worth(told, calls, "groat", ("york", 2, 6)), worth)
        self.assertEqual(len(calls), 3)


class PartedTest(CoinCase):
    def look(self, one, other):
        """Looks whether the two rules part as they are told to, for any kind."""
        told = parted(one, other)
        self.assertIs(type(told), tuple)
        rows, case = told
        self.assertIs(type(rows), list)
        self.assertLessEqual(len(rows), 20)
        for town, day, worth in rows:
            self.assertTrue(is_name(town) and is_day(day))
            self.assertIn(worth, (0, MOST))
            self.assertIs(type(worth), int)
        self.assertEqual([type(row) for row in rows], [tuple] * len(rows))
        self.assertEqual(len({row[:2] for row in rows}), len(rows))
        town, made, paid = case
        self.assertIs(type(case), tuple)
        self.assertTrue(is_name(town) and is_day(made) and is_day(paid))
        self.assertLessEqual(made, paid)
        for kind in ("groat", "a", "york"):
            for told_rows in (rows, rows[::-1]):
                book = Calls()
                for town, day, worth in told_rows:
                    book.tell(town, kind, day, worth)
                self.assertNotEqual(one.worth(book, kind, case), other.worth(book, kind, case))

    def test_none_just_where_the_forms_are_one(self):
        terms = [[read_term(text) for text in row] for row in ALIKE]
        for row in terms:
            for one, other in itertools.product(row, row):
                self.assertIsNone(parted(one, other))
        for one, other in itertools.permutations(terms, 2):
            self.look(one[0], other[-1])

    def test_rules_of_all_sorts(self):
        chance = random.Random(18)
        alike = 0
        for turn in range(400):
            calls = chance.sample(ALL_CALLS, chance.randrange(1, 7))
            one, other = chance_term(chance, calls, 3), chance_term(chance, calls, 3)
            with self.subTest((one.text(), other.text())):
                if form(one) == form(other):
                    alike += 1
                    self.assertIsNone(parted(one, other))
                else:
                    self.look(one, other)
        self.assertGreater(alike, 5)

    def test_calls_that_are_near_one_another(self):
        texts = ["made", "paid", "made in a", "made in b", "paid in a", "paid in b", "day 9998", "day 9999", "at 5", "at 0"]
        texts += [f"day {day}" for day in range(8)] + [f"day {day} in {town}" for day in (0, 1, 9999) for town in "abcd"]
        for one, other in itertools.permutations(texts, 2):
            self.look(read_term(one), read_term(other))
        for one, other in (("made", "greatest(paid, day 0, day 1, day 2, day 3)"),
                           ("least(made in a, made in b, made in c, paid)", "least(made in a, made in b, made in c, made)"),
                           ("least(day 0, day 1, day 2, day 3, made)", "least(day 0, day 1, day 2, day 3, paid)"),
                           ("greatest(day 9994, day 9995, day 9996, made)", "greatest(day 9994, day 9995, day 9996, paid)"),
                           ("least(at 30, made)", "least(at 31, made)"), ("greatest(at 30, made)", "greatest(at 31, made)")):
            self.look(read_term(one), read_term(other))

    def test_6_unlike_calls_of_both_together_and_7(self):
        for many in range(2, 5):
            one, other = called(*ALL_CALLS[:many]), called(*ALL_CALLS[many:6])
            self.look(one, other)
            self.look(other, one)
            self.look(called(*ALL_CALLS[:6]), called(*ALL_CALLS[many:6]))
            self.refused(TooMany, parted, one, called(*ALL_CALLS[many:7]))
            self.refused(TooMany, parted, called(*ALL_CALLS[many:7]), one)
        self.refused(TooMany, parted, called(*ALL_CALLS[:7]), Level(1))
        self.refused(TooMany, parted, Level(1), called(*ALL_CALLS[:7]))

    def test_too_many_whatever_they_tell(self):
        none = Least([called(*ALL_CALLS[:4]), Level(0)])
        nor = Least([called(*ALL_CALLS[4:7]), Level(0)])
        self.assertEqual(form(none), form(nor))
        self.refused(TooMany, parted, none, nor)
        self.refused(TooMany, parted, called(*ALL_CALLS[:7]), called(*ALL_CALLS[:7]))
        self.assertIsNone(parted(none, Level(0)))
        self.assertIsNone(parted(none, Least([called(*ALL_CALLS[4:6]), Level(0)])))

    def test_what_is_told_is_the_askers_own(self):
        one, other = read_term("made"), read_term("paid")
        rows, case = parted(one, other)
        rows.clear()
        self.look(one, other)


if __name__ == "__main__":
    unittest.main()
