"""Points 12, 13 and, for what is written, 14; and point 3 as far as rules go."""

import random
import unittest

from callcoin import terms
from callcoin.calls import Calls
from callcoin.errors import NoDay, NoName, NoTerm, NoWorth
from callcoin.terms import Called, Greatest, Least, Level, Term, term_of
from tests.cases import NO_DAYS, NO_NAMES, NO_WORTHS, CoinCase
from tests.rules import CASES, TOWNS, WHENS, chance_book, chance_term, nest, wide

KINDS = (Level, Called, Least, Greatest)
JOINED = (Least, Greatest)


class ClassesTest(CoinCase):
    def test_each_is_under_term_and_none_under_another(self):
        for one in KINDS:
            self.assertTrue(issubclass(one, Term))
            for other in KINDS:
                self.assertEqual(issubclass(one, other), one is other)

    def test_each_has_its_own_methods(self):
        for one in KINDS + (Term,):
            for name in ("worth", "told", "text"):
                self.assertIn(name, vars(one))
        self.assertIs(terms.term_of, term_of)


class LevelTest(CoinCase):
    def test_levels(self):
        for level in (0, 1, 30, 999999, 1000000):
            self.assertEqual(Level(level).level, level)

    def test_no_worth(self):
        for level in NO_WORTHS:
            self.refused(NoWorth, Level, level)


class CalledTest(CoinCase):
    def test_fields(self):
        for when in WHENS:
            self.assertEqual((Called(when).when, Called(when).town), (when, None))
            for town in TOWNS + ("made", "paid", "in", "a", "abcdefgh"):
                for term in (Called(when, town), Called(when, town=town)):
                    self.assertEqual((term.when, term.town), (when, town))

    def test_no_day(self):
        for when in NO_DAYS + ("", "day", "Made", "PAID", "made ", " paid", "payd", "mad", "madepaid", "0", "12", None):
            for town in (None, "york", "York"):
                self.refused(NoDay, Called, when, town)
            self.refused(NoDay, Called, when)

    def test_no_name(self):
        for town in NO_NAMES:
            for when in WHENS:
                self.refused(NoName, Called, when, town)
                self.refused(NoName, Called, when, town=town)


class JoinedTest(CoinCase):
    def test_terms_is_a_tuple(self):
        inner = [Level(3), Called("made")]
        for joined in JOINED:
            for given in (inner, tuple(inner)):
                told = joined(given).terms
                self.assertIs(type(told), tuple)
                self.assertEqual(len(told), 2)
                self.assertIs(told[0], inner[0])
                self.assertIs(told[1], inner[1])

    def test_a_list_may_be_changed_behind_the_call(self):
        for joined in JOINED:
            inner = [Level(3), Level(4)]
            term = joined(inner)
            inner.append(Level(5))
            inner[0] = Called("paid")
            self.assertEqual(term.terms, (Level(3), Level(4)))
            self.assertEqual(term.told()[1:], (("level", 3), ("level", 4)))

    def test_two_to_eight_rules(self):
        for joined in JOINED:
            for many in range(2, 9):
                self.assertEqual(len(joined([Level(1)] * many).terms), many)
            for many in (0, 1, 9, 10, 60):
                self.refused(NoTerm, joined, [Level(1)] * many)
                self.refused(NoTerm, joined, (Level(1),) * many)

    def test_60_rules_in_it_and_61(self):
        for joined in JOINED:
            for inner in ([wide(57), Level(1), Level(1)], [Level(1), wide(29), wide(29)], [wide(58), Level(2)]):
                self.assertEqual(len(joined(inner).terms), len(inner))
            for inner in ([wide(58), Level(1), Level(1)], [Level(1), wide(30), wide(29)], [wide(59), Called("made")],
                          [wide(31), wide(31)], [wide(60), wide(60)]):
                self.refused(NoTerm, joined, inner)

    def test_each_is_counted_as_often_as_it_stands(self):
        for joined in JOINED:
            one = Level(1)
            same = joined([one] * 8)
            six = joined([same] * 6)
            self.assertEqual(len(joined([six, one, one, one, one]).terms), 5)
            self.refused(NoTerm, joined, [six, one, one, one, one, one])
            self.refused(NoTerm, joined, [same] * 7)
            self.refused(NoTerm, joined, [six, six])

    def test_each_kind_of_rule_counts(self):
        for one in (Level(1), Called("made"), Called(3, "york")):
            for joined in JOINED:
                six = joined([joined([one] * 8)] * 6)
                self.assertEqual(len(joined([six] + [one] * 4).terms), 5)
                self.refused(NoTerm, joined, [six] + [one] * 5)
                term = one
                for depth in range(2, 9):
                    term = joined([one, term])
                self.refused(NoTerm, joined, [one, term])

    def test_8_deep_and_9(self):
        for joined in JOINED:
            for at in range(2):
                inner = [Level(1), Level(1)]
                inner[at] = nest(7)
                self.assertEqual(len(joined(inner).terms), 2)
                inner[at] = nest(8)
                self.refused(NoTerm, joined, inner)

    def test_a_refusal_leaves_the_inner_rules(self):
        inner = [nest(8), Level(2)]
        told = inner[0].told()
        self.refused(NoTerm, Least, inner)
        self.assertEqual(inner[0].told(), told)
        self.assertEqual(len(inner), 2)


class WorthTest(CoinCase):
    def setUp(self):
        self.calls = Calls()
        for row in (("york", "groat", 2, 20), ("york", "groat", 5, 50), ("bath", "groat", 0, 7),
                    ("bath", "groat", 4, 400), ("york", "penny", 0, 1)):
            self.calls.tell(*row)

    def worths(self, *rows):
        for term, case, worth in rows:
            with self.subTest((term.told(), case)):
                self.assertEqual(term.worth(self.calls, "groat", case), worth)
                self.assertEqual(term.worth(self.calls, "groat", list(case)), worth)

    def test_level(self):
        for level in (0, 30, 1000000):
            self.worths(*[(Level(level), case, level) for case in CASES])

    def test_called_in_the_debts_own_town(self):
        self.worths(
            (Called("made"), ("york", 2, 5), 20), (Called("paid"), ("york", 2, 5), 50),
            (Called("made"), ("york", 1, 5), 0), (Called("paid"), ("york", 1, 4), 20),
            (Called("made"), ("bath", 4, 0), 400), (Called("paid"), ("bath", 4, 0), 7),
            (Called(0), ("york", 5, 5), 0), (Called(2), ("york", 0, 0), 20), (Called(9999), ("york", 0, 0), 50),
            (Called(3), ("bath", 9, 9), 7), (Called("made"), ("hull", 5, 5), 0))

    def test_called_in_a_town(self):
        self.worths(
            (Called("made", "bath"), ("york", 2, 5), 7), (Called("paid", "bath"), ("york", 2, 5), 400),
            (Called("made", "york"), ("bath", 2, 5), 20), (Called(4, "bath"), ("york", 0, 0), 400),
            (Called(3, "bath"), ("york", 0, 0), 7), (Called(5, "hull"), ("york", 9, 9), 0))

    def test_least_and_greatest(self):
        inner = [Called("paid"), Level(30), Called("made", "bath")]
        self.worths((Least(inner), ("york", 2, 5), 7), (Greatest(inner), ("york", 2, 5), 50),
                    (Least(inner), ("york", 4, 2), 20), (Greatest(inner), ("york", 4, 2), 400),
                    (Least([Level(3), Level(4)]), ("york", 4, 2), 3), (Greatest([Level(4), Level(3)]), ("york", 4, 2), 4),
                    (Least([Greatest(inner), Level(45)]), ("york", 2, 5), 45),
                    (Greatest([Least(inner), Level(5)]), ("york", 2, 5), 7))

    def test_the_kind_that_is_asked(self):
        self.assertEqual(Called("made").worth(self.calls, "penny", ("york", 5, 5)), 1)
        self.assertEqual(Called("made").worth(self.calls, "mark", ("york", 5, 5)), 0)

    def test_by_the_book_as_it_stands(self):
        term = Greatest([Called("paid"), Level(3)])
        calls = Calls()
        self.assertEqual(term.worth(calls, "groat", ("york", 1, 6)), 3)
        calls.tell("york", "groat", 4, 9)
        self.assertEqual(term.worth(calls, "groat", ("york", 1, 6)), 9)
        calls.tell("york", "groat", 4, 2)
        self.assertEqual(term.worth(calls, "groat", ("york", 1, 6)), 3)
        self.assertEqual(len(calls), 2)

    def test_the_least_is_the_least_of_all(self):
        chance = random.Random(13)
        calls = [(when, town) for when in WHENS for town in TOWNS]
        for turn in range(100):
            book = chance_book(chance)
            inner = [chance_term(chance, calls, 2) for term in range(3)]
            for case in CASES:
                worths = [term.worth(book, "groat", case) for term in inner]
                self.assertEqual(Least(inner).worth(book, "groat", case), min(worths))
                self.assertEqual(Greatest(inner).worth(book, "groat", case), max(worths))


class ToldTest(CoinCase):
    def test_told(self):
        inner = [Level(3), Least([Called("paid"), Called(3, "york")])]
        rows = ((Level(30), ("level", 30)), (Called("made"), ("called", "made", None)),
                (Called("paid", "york"), ("called", "paid", "york")), (Called(12), ("called", 12, None)),
                (Called(0, "in"), ("called", 0, "in")), (Least([Level(1), Level(0)]), ("least", ("level", 1), ("level", 0))),
                (Greatest(inner), ("greatest", ("level", 3), ("least", ("called", "paid", None), ("called", 3, "york")))))
        for term, told in rows:
            with self.subTest(told):
                self.assertEqual(term.told(), told)
                self.assertIs(type(term.told()), tuple)
                self.assertEqual(term_of(told).told(), told)
                self.assertEqual(term_of(told), term)
                self.assertIs(type(term_of(told)), type(term))


class EqualTest(CoinCase):
    def rules(self):
        """Rules of which no two tell the same."""
        rules = [Level(level) for level in (0, 1, 3, 12)] + [Called(when, town) for when in WHENS for town in TOWNS]
        rules += [Called(12), Called("made", "made"), Called("paid", "made")]
        for joined in JOINED:
            rules += [joined([Level(1), Level(2)]), joined([Level(2), Level(1)]), joined([Level(1), Level(1)]),
                      joined([Level(1), Level(2), Level(2)]), joined([Level(1), Called(2)]),
                      joined([Least([Level(1), Level(2)]), Level(1)]), joined([Greatest([Level(1), Level(2)]), Level(1)])]
        return rules

    def test_equal_just_where_they_tell_the_same(self):
        for at, one in enumerate(self.rules()):
            for place, other in enumerate(self.rules()):
                self.assertEqual(one == other, at == place)
                self.assertEqual(one != other, at != place)
                self.assertEqual(one.told() == other.told(), at == place)

    def test_things_that_are_no_rules(self):
        for term in self.rules():
            for thing in (None, 0, 1, 3, "made", "at 3", term.told(), term.text(), [term], (term,), True, False, object()):
                self.assertFalse(term == thing)
                self.assertFalse(thing == term)
                self.assertTrue(term != thing)


class TermOfTest(CoinCase):
    def test_what_told_told(self):
        chance = random.Random(14)
        calls = [(when, town) for when in WHENS for town in TOWNS]
        for term in [chance_term(chance, calls, 4) for turn in range(200)] + [nest(8), wide(60)]:
            again = term_of(term.told())
            self.assertEqual(again.told(), term.told())
            self.assertEqual(again, term)

    def test_refused_as_the_rules_are(self):
        for level in NO_WORTHS:
            self.refused(NoWorth, term_of, ("level", level))
        for when in NO_DAYS + ("day", "12", ""):
            self.refused(NoDay, term_of, ("called", when, None))
            self.refused(NoDay, term_of, ("called", when, "York"))
        for town in NO_NAMES:
            self.refused(NoName, term_of, ("called", "made", town))
        good = ("level", 1)
        for word in ("least", "greatest"):
            for many in (0, 1, 9, 12):
                self.refused(NoTerm, term_of, (word,) + (good,) * many)
            self.refused(NoTerm, term_of, (word, nest(8).told(), good))
            self.refused(NoTerm, term_of, (word, good, nest(8).told()))
            self.refused(NoTerm, term_of, (word, wide(59).told(), good))

    def test_the_inner_ones_first_from_the_left(self):
        worth, day, name = ("level", -1), ("called", -1, None), ("called", "made", "York")
        good, few = ("level", 1), ("least", ("level", 1))
        deep = nest(8).told()
        for word in ("least", "greatest"):
            self.refused(NoWorth, term_of, (word, worth))
            self.refused(NoWorth, term_of, (word,) + (good,) * 8 + (worth,))
            self.refused(NoDay, term_of, (word, deep, day))
            self.refused(NoName, term_of, (word, good, name, day))
            self.refused(NoDay, term_of, (word, good, day, name))
            self.refused(NoTerm, term_of, (word, few, day))
            self.refused(NoDay, term_of, (word, day, few))
            self.refused(NoWorth, term_of, (word, ("greatest", good, worth), day))
            self.refused(NoDay, term_of, (word, ("greatest", good, day), worth))
            self.refused(NoTerm, term_of, (word, ("greatest", deep, good), worth))
            self.refused(NoName, term_of, (word, ("greatest", name), worth))


class TextTest(CoinCase):
    def test_texts(self):
        rows = ((Level(30), "at 30"), (Level(0), "at 0"), (Level(1000000), "at 1000000"),
                (Called("made"), "made"), (Called("paid"), "paid"), (Called(12), "day 12"), (Called(0), "day 0"),
                (Called(9999), "day 9999"), (Called("made", "york"), "made in york"),
                (Called("paid", "in"), "paid in in"), (Called(3, "york"), "day 3 in york"),
                (Least([Called("paid"), Called(3, "york")]), "least(paid, day 3 in york)"),
                (Greatest([Level(1), Level(2), Level(3)]), "greatest(at 1, at 2, at 3)"),
                (Greatest([Least([Called("made"), Called("made")]), Level(0)]), "greatest(least(made, made), at 0)"),
                (Least([Level(4), Greatest([Called(0), Level(7)])]), "least(at 4, greatest(day 0, at 7))"))
        for term, text in rows:
            with self.subTest(text):
                self.assertEqual(term.text(), text)
                self.assertEqual(str(term), text)
                self.assertIs(type(term.text()), str)


if __name__ == "__main__":
    unittest.main()
