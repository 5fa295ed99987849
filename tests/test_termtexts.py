"""Point 14: rules read from texts."""

import random
import unittest

from callcoin.errors import NoDay, NoName, NoTerm, NoText, NoWorth
from callcoin.terms import Called, Greatest, Least, Level
from callcoin.termtexts import read_term
from tests.cases import CoinCase
from tests.rules import TOWNS, WHENS, chance_term, nest, wide


def nested(many, inner="at 1"):
    """A text with so many brackets open at once."""
    return "least(" * many + inner + ", at 2)" * many


class ReadTest(CoinCase):
    def test_each_form(self):
        rows = (("at 30", Level(30)), ("at 0", Level(0)), ("at 1000000", Level(1000000)),
                ("made", Called("made")), ("paid", Called("paid")), ("day 12", Called(12)), ("day 0", Called(0)),
                ("day 9999", Called(9999)), ("made in york", Called("made", "york")),
                ("paid in york", Called("paid", "york")), ("day 3 in york", Called(3, "york")),
                ("made in in", Called("made", "in")), ("paid in made", Called("paid", "made")),
                ("day 3 in day", Called(3, "day")), ("made in least", Called("made", "least")),
                ("made in abcdefgh", Called("made", "abcdefgh")),
                ("least(paid, day 3 in york)", Least([Called("paid"), Called(3, "york")])),
                ("greatest(paid, day 3 in york)", Greatest([Called("paid"), Called(3, "york")])),
                ("least(at 1, greatest(made, paid), at 2)",
                 Least([Level(1), Greatest([Called("made"), Called("paid")]), Level(2)])))
        for text, term in rows:
            with self.subTest(text):
                self.assertEqual(read_term(text).told(), term.told())
                self.assertEqual(read_term(text), term)
                self.assertIs(type(read_term(text)), type(term))
                self.assertEqual(read_term(text).text(), text)

    def test_what_is_written_is_read_as_an_equal_rule(self):
        chance = random.Random(15)
        calls = [(when, town) for when in WHENS for town in TOWNS]
        terms = [chance_term(chance, calls, 4) for turn in range(300)]
        for term in terms + [Called(*call) for call in calls] + [nest(8), wide(60), Least([Level(1)] * 8)]:
            self.assertEqual(read_term(term.text()), term)
            self.assertEqual(read_term(str(term)).told(), term.told())


class OtherFormsTest(CoinCase):
    def no_text(self, *texts):
        for text in texts:
            self.refused(NoText, read_term, text)

    def test_empty_texts_and_blanks(self):
        self.no_text("", " ", "  ", "\n", " made", "made ", "at  30", "at 30 ", " at 30", "at30", "at", "at ", "30",
                     "day", "day ", "day12", "day  12", "day 12 ", " day 12", "12", "made  in york", "made in  york",
                     "made in york ", "madein york", "made inyork", "made in", "made in ", "made york", "in york")

    def test_brackets_and_commas(self):
        self.no_text("least(made,paid)", "least(made , paid)", "least(made,  paid)", "least( made, paid)",
                     "least(made, paid )", "least (made, paid)", "least(made, paid) ", " least(made, paid)",
                     "least(made paid)", "least(made; paid)", "least(made, paid", "least(made, paid))", "least made, paid",
                     "least(made, paid,)", "least(made, paid, )", "least(, made, paid)", "least(made, , paid)",
                     "(made, paid)", "made, paid", "least[made, paid]", "least", "greatest", "least(", "least)",
                     "least(made, paid)made", "least(made, paid) in york", "least(made, paid)(made, paid)", "(made)",
                     "made)", "(", ")", ",", ", ", "least(made, (paid, paid))", "least(made, least(paid, paid)",
                     "least(made", "least(made,", "least(made, ", "least(made, paid, least(")

    def test_empty_brackets(self):
        self.no_text("least()", "greatest()", "least( )", "least(least())", "least(made, greatest())", "least(, )")

    def test_other_words(self):
        self.no_text("Made", "MADE", "mad", "mades", "madepaid", "pay", "days 12", "At 30", "level 30", "called made",
                     "lest(made, paid)", "leastt(made, paid)", "great(made, paid)", "Least(made, paid)", "none", "york",
                     "most(made, paid)", "min(made, paid)", "made at york", "at 30 in york", "at made", "day made",
                     "made 12", "paid 12 in york", "made day 12", "day 12 day 12", "made in york in bath")

    def test_figures(self):
        self.no_text("at 030", "at 00", "at 01", "day 00", "day 012", "at -1", "at +1", "day -1", "at 1.0", "at 1_0",
                     "at x", "day x", "at 1x", "day 1x", "at 1,0", "at 1e3", "day twelve", "at thirty", "at 0x1",
                     "at " + "1" * 17, "day " + "1" * 17, "at " + "0" * 16, "at 1" + "0" * 16, "day " + "9" * 5000,
                     "at " + "9" * 5000)

    def test_towns(self):
        self.no_text("made in York", "made in yorK", "made in y2", "made in 12", "day 3 in 3", "made in york2",
                     "made in york-shire", "made in york,", "made in .", "paid in Abcdefghi")

    def test_line_ends(self):
        self.no_text("made\n", "\nmade", "at 30\n", "at\n30", "day 12\n", "day\n12", "made in york\n", "made\nin york",
                     "made in\nyork", "least(made, paid)\n", "least(made,\npaid)", "least(\nmade, paid)", "made\n\n",
                     "made\npaid")

    def test_20_brackets_and_21(self):
        for many in range(8, 21):
            self.refused(NoTerm, read_term, nested(many))
        for many in (21, 22, 40, 1000, 100000):
            self.refused(NoText, read_term, nested(many))
            self.refused(NoText, read_term, "least(" * many)
            self.refused(NoText, read_term, "greatest(" * many + "made" + ")" * many)
        self.refused(NoWorth, read_term, nested(20, "at 1000001"))
        self.refused(NoText, read_term, nested(21, "at 1000001"))

    def test_brackets_that_are_shut_are_not_counted(self):
        self.refused(NoTerm, read_term, "least(" + ", ".join(["least(made, paid)"] * 30) + ")")
        self.refused(NoTerm, read_term, "least(" + nested(19) + ", " + nested(19) + ")")
        self.refused(NoText, read_term, "least(" + nested(19) + ", " + nested(20) + ")")
        self.assertEqual(read_term("greatest(" + ", ".join([nested(3)] * 5) + ")").text(),
                         "greatest(" + ", ".join([nested(3)] * 5) + ")")


class RefusalsTest(CoinCase):
    def test_the_rules_own_refusals(self):
        for figures in ("1000001", "9999999", "9" * 16, "1" + "0" * 15):
            self.refused(NoWorth, read_term, "at " + figures)
        for figures in ("10000", "99999", "9" * 16):
            self.refused(NoDay, read_term, "day " + figures)
            self.refused(NoDay, read_term, f"day {figures} in yorkshire")
        for town in ("yorkshire", "abcdefghi", "a" * 100):
            for when in ("made", "paid", "day 3"):
                self.refused(NoName, read_term, f"{when} in {town}")
        for word in ("least", "greatest"):
            self.refused(NoTerm, read_term, f"{word}(made)")
            self.refused(NoTerm, read_term, f"{word}(" + ", ".join(["made"] * 9) + ")")
            self.assertEqual(len(read_term(f"{word}(" + ", ".join(["made"] * 8) + ")").terms), 8)
            self.refused(NoTerm, read_term, f"{word}({nest(8).text()}, made)")
            self.refused(NoTerm, read_term, f"{word}({wide(59).text()}, made)")

    def test_the_inner_ones_first_from_the_left(self):
        self.refused(NoWorth, read_term, "least(at 1000001)")
        self.refused(NoWorth, read_term, "least(at 1000001, day 10000)")
        self.refused(NoDay, read_term, "least(day 10000, at 1000001)")
        self.refused(NoName, read_term, "least(made in yorkshire, day 10000)")
        self.refused(NoTerm, read_term, "least(least(made), day 10000)")
        self.refused(NoDay, read_term, "least(day 10000, least(made))")
        self.refused(NoName, read_term, "least(made, greatest(made, paid in yorkshire), at 1000001)")
        self.refused(NoWorth, read_term, "least(" + "made, " * 9 + "at 1000001)")
        self.refused(NoDay, read_term, f"least({nest(8).text()}, day 10000)")

    def test_no_text_comes_ahead_of_all(self):
        self.refused(NoText, read_term, "least(at 1000001, made")
        self.refused(NoText, read_term, "least(at 1000001, made) ")
        self.refused(NoText, read_term, "at 1000001 ")
        self.refused(NoText, read_term, "day 10000 in York")
        self.refused(NoText, read_term, "made in yorkshire ")
        self.refused(NoText, read_term, "least(made in yorkshire, Paid)")
        self.refused(NoText, read_term, "least(made), made")
        self.refused(NoText, read_term, "least(" + "made, " * 9 + ")")
        self.refused(NoText, read_term, f"least({nest(8).text()}, day 10000, at 01)")


if __name__ == "__main__":
    unittest.main()
