"""Points 5, 6 and 7, and point 3 as far as moneys go."""

import unittest

from callcoin.errors import CoinError, NoAmount, NoMoney, NoName, NoText
from callcoin.moneys import Money
from tests.cases import NO_AMOUNTS, CoinCase

STERLING = (("pound", 20), ("shilling", 12), ("penny", 1))
NAMES = ("a", "b", "c", "d", "e", "f", "g", "h")
MOST = 10 ** 15
AMOUNTS = (0, 1, 2, 11, 12, 13, 239, 240, 241, 252, 724, 1000000, MOST - 1, MOST)


def units_of(many_units, many=2):
    """So many units with unlike names."""
    names = NAMES[:many_units]
    return [(name, many) for name in names[:-1]] + [(name, 1) for name in names[-1:]]


MONEYS = (
    Money(STERLING),
    Money([("penny", 1)]),
    Money([("livre", 20), ("sou", 12), ("denier", 2), ("mite", 1)]),
    Money(units_of(6)),
    Money(units_of(6, 1000)),
)


class UnitsTest(CoinCase):
    def test_field_units(self):
        self.assertEqual(Money(STERLING).units, STERLING)
        self.assertEqual(Money([("penny", 1)]).units, (("penny", 1),))

    def test_one_to_six_units(self):
        for many_units in range(1, 7):
            with self.subTest(many_units):
                self.assertEqual(Money(units_of(many_units)).units, tuple(units_of(many_units)))

    def test_another_number_of_units(self):
        self.refused(NoMoney, Money, [])
        self.refused(NoMoney, Money, ())
        self.refused(NoMoney, Money, units_of(7))
        self.refused(NoMoney, Money, units_of(8))

    def test_many_from_2_to_1000(self):
        for many in (2, 3, 999, 1000):
            for units in ([("a", many), ("b", 5), ("c", 1)], [("a", 5), ("b", many), ("c", 1)]):
                with self.subTest(units):
                    self.assertEqual(Money(units).units, tuple(units))

    def test_another_many(self):
        for many in (1, 1001, 0, -1, -2, -1000, 10 ** 20, True, False):
            self.refused(NoMoney, Money, [("a", many), ("b", 5), ("c", 1)])
            self.refused(NoMoney, Money, [("a", 5), ("b", many), ("c", 1)])

    def test_the_last_many_is_1(self):
        for many in (2, 0, -1, 12, 1000, 1001, True, False):
            self.refused(NoMoney, Money, [("a", 5), ("b", many)])
            self.refused(NoMoney, Money, [("a", many)])

    def test_names_alike(self):
        self.refused(NoMoney, Money, [("a", 5), ("a", 1)])
        self.refused(NoMoney, Money, [("a", 5), ("b", 5), ("a", 1)])
        self.refused(NoMoney, Money, [("a", 5), ("a", 5), ("b", 1)])
        self.refused(NoMoney, Money, [("a", 5), ("b", 5), ("b", 1)])

    def test_no_name_at_any_place(self):
        for name in ("", "Pound", "poundsand", "pou nd", "pound ", " pound", "pound\n", "p2", "pound,"):
            for at in range(3):
                units = list(STERLING)
                units[at] = (name, STERLING[at][1])
                self.refused(NoName, Money, units)

    def test_names_of_eight_letters(self):
        self.assertEqual(Money([("shilling", 12), ("farthing", 1)]).units, (("shilling", 12), ("farthing", 1)))

    def test_no_name_comes_ahead_of_no_money(self):
        self.refused(NoName, Money, units_of(7)[:-1] + [("G", 1)])
        self.refused(NoName, Money, [("A", 2)] + units_of(7))
        self.refused(NoName, Money, units_of(7) + [("", 1)])
        for many in (1, 1001, 0, -1, True, False):
            self.refused(NoName, Money, [("a", many), ("b", 5), ("C", 1)])
            self.refused(NoName, Money, [("A", many), ("b", 1)])
        for many in (2, 0, True, False):
            self.refused(NoName, Money, [("A", 5), ("b", many)])
            self.refused(NoName, Money, [("A", many)])
        self.refused(NoName, Money, [("a", 5), ("a", 5), ("B", 1)])
        self.refused(NoName, Money, [("A", 5), ("A", 1)])

    def test_lists_and_tuples_are_alike(self):
        pairs = ([tuple(pair) for pair in STERLING], [list(pair) for pair in STERLING])
        for units in pairs + (tuple(pairs[0]), tuple(pairs[1]), [["pound", 20], ("shilling", 12), ["penny", 1]]):
            with self.subTest(units):
                told = Money(units).units
                self.assertEqual(told, STERLING)
                self.assertIs(type(told), tuple)
                self.assertEqual([type(pair) for pair in told], [tuple] * 3)

    def test_refusals_of_lists_and_tuples_are_alike(self):
        self.refused(NoName, Money, (["pound", 1], ["Penny", 1]))
        self.refused(NoMoney, Money, (["pound", 1], ["penny", 1]))

    def test_what_is_handed_in_may_be_changed_behind_the_call(self):
        units = [["pound", 20], ["shilling", 12], ["penny", 1]]
        money = Money(units)
        units[0][1] = 30
        units[1][0] = "groat"
        units.pop()
        self.assertEqual(money.units, STERLING)
        self.assertEqual(money.parts(724), (3, 0, 4))
        self.assertEqual(money.text(252), "1 pound 1 shilling")
        self.assertEqual(money.amount("1 pound 1 shilling"), 252)

    def test_what_is_handed_in_stays_as_it_is(self):
        for units in ([["pound", 20], ["penny", 1]], [["pound", 1], ["penny", 1]], [["Pound", 20], ["penny", 1]]):
            copy = [list(pair) for pair in units]
            try:
                Money(units).text(41)
            except CoinError:
                pass
            self.assertEqual(units, copy)


class PartsTest(CoinCase):
    def test_parts(self):
        money = Money(STERLING)
        rows = ((0, (0, 0, 0)), (1, (0, 0, 1)), (11, (0, 0, 11)), (12, (0, 1, 0)), (239, (0, 19, 11)),
                (240, (1, 0, 0)), (724, (3, 0, 4)), (MOST - 1, (4166666666666, 13, 3)),
                (MOST, (4166666666666, 13, 4)))
        for amount, parts in rows:
            with self.subTest(amount):
                self.assertEqual(money.parts(amount), parts)
                self.assertIs(type(money.parts(amount)), tuple)

    def test_one_unit_alone(self):
        money = Money([("penny", 1)])
        for amount in AMOUNTS:
            self.assertEqual(money.parts(amount), (amount,))

    def test_the_greatest_units(self):
        money = Money(units_of(6, 1000))
        self.assertEqual(money.parts(MOST), (1, 0, 0, 0, 0, 0))
        self.assertEqual(money.parts(MOST - 1), (0, 999, 999, 999, 999, 999))

    def test_parts_make_the_amount_and_each_but_the_first_is_less(self):
        for money in MONEYS:
            for amount in AMOUNTS + tuple(range(300)):
                parts = money.parts(amount)
                self.assertEqual(len(parts), len(money.units))
                total = 0
                for at, part in enumerate(parts):
                    self.assertIs(type(part), int)
                    total = total + part
                    self.assertGreaterEqual(part, 0)
                    if at > 0:
                        self.assertLess(part, money.units[at - 1][1])
                    total = total * money.units[at][1]
                self.assertEqual(total, amount)

    def test_no_amount(self):
        for money in MONEYS:
            for amount in NO_AMOUNTS:
                self.refused(NoAmount, money.parts, amount)

    def test_moneys_asked_by_turns(self):
        one = Money(STERLING)
        other = Money([("pound", 8), ("shilling", 10), ("penny", 1)])
        for amount in (0, 81, 724):
            self.assertEqual(one.parts(amount), (amount // 240, amount // 12 % 20, amount % 12))
            self.assertEqual(other.parts(amount), (amount // 80, amount // 10 % 8, amount % 10))
        self.assertEqual(one.text(240), "1 pound")
        self.assertEqual(other.text(240), "3 pound")
        self.assertEqual(one.amount("1 pound 1 shilling"), 252)
        self.assertEqual(other.amount("1 pound 1 shilling"), 90)
        self.assertEqual(one.units, STERLING)


class TextTest(CoinCase):
    def test_texts(self):
        money = Money(STERLING)
        rows = ((0, "0 penny"), (1, "1 penny"), (12, "1 shilling"), (13, "1 shilling 1 penny"),
                (240, "1 pound"), (252, "1 pound 1 shilling"), (724, "3 pound 4 penny"),
                (253, "1 pound 1 shilling 1 penny"), (239, "19 shilling 11 penny"),
                (MOST - 1, "4166666666666 pound 13 shilling 3 penny"),
                (MOST, "4166666666666 pound 13 shilling 4 penny"))
        for amount, text in rows:
            with self.subTest(amount):
                self.assertEqual(money.text(amount), text)

    def test_one_unit_alone(self):
        money = Money([("mite", 1)])
        self.assertEqual(money.text(0), "0 mite")
        self.assertEqual(money.text(MOST), "1000000000000000 mite")

    def test_units_of_which_there_are_none_are_left_out(self):
        money = Money(units_of(4, 10))
        self.assertEqual(money.text(1001), "1 a 1 d")
        self.assertEqual(money.text(110), "1 b 1 c")
        self.assertEqual(money.text(1010), "1 a 1 c")
        self.assertEqual(money.text(0), "0 d")

    def test_no_amount(self):
        for money in MONEYS:
            for amount in NO_AMOUNTS:
                self.refused(NoAmount, money.text, amount)


class AmountTest(CoinCase):
    def setUp(self):
        self.money = Money(STERLING)

    def no_text(self, *texts):
        for text in texts:
            self.refused(NoText, self.money.amount, text)

    def test_what_is_written_is_read_as_the_same(self):
        for money in MONEYS:
            for amount in AMOUNTS + tuple(range(500)):
                self.assertEqual(money.amount(money.text(amount)), amount)
                self.assertIs(type(money.amount(money.text(amount))), int)

    def test_more_of_a_unit_than_parts_tell(self):
        rows = (("25 shilling", 300), ("20 shilling", 240), ("12 penny", 12), ("1 pound 240 penny", 480),
                ("1 pound 25 shilling 13 penny", 553), ("1000000000000000 penny", MOST))
        for text, amount in rows:
            with self.subTest(text):
                self.assertEqual(self.money.amount(text), amount)

    def test_units_out_of_order(self):
        self.no_text("4 penny 3 pound", "1 shilling 1 pound", "1 penny 1 shilling", "1 pound 1 penny 1 shilling")

    def test_units_told_twice(self):
        self.no_text("1 pound 1 pound", "1 penny 1 penny", "1 pound 1 penny 1 penny", "1 pound 1 shilling 1 pound")

    def test_strange_units(self):
        self.no_text("1 groat", "1 pound 1 groat", "1 groat 1 penny", "1 Penny", "1 pennys", "1 pen", "1 pound,",
                     "1 penny.", "0 groat")

    def test_without_figures_or_names(self):
        self.no_text("penny", "pound penny", "1 pound penny", "pound 1", "1", "1 pound 1", "1 1", "1 1 penny",
                     "1 pound shilling penny", "1penny", "penny 1 pound")

    def test_other_figures(self):
        self.no_text("01 penny", "00 penny", "007 penny", "1 pound 01 penny", "+1 penny", "-1 penny", "1.0 penny",
                     "1_0 penny", "x penny", "1e1 penny", "1,000 penny", "0x1 penny", "-0 penny", "+0 penny")

    def test_sixteen_and_seventeen_figures(self):
        self.refused(NoAmount, self.money.amount, "9999999999999999 penny")
        self.refused(NoAmount, self.money.amount, "1000000000000001 penny")
        self.no_text("1" + "0" * 16 + " penny", "9" * 17 + " penny", "0" * 15 + "1 penny", "0" * 16 + "1 penny",
                     "9" * 5000 + " penny")

    def test_zeros(self):
        self.assertEqual(self.money.amount("0 penny"), 0)
        self.assertEqual(Money([("mite", 1)]).amount("0 mite"), 0)
        self.no_text("0 pound", "0 shilling", "0 pound 0 shilling 0 penny", "1 pound 0 penny", "0 pound 1 penny",
                     "1 pound 0 shilling 1 penny", "0 penny 0 penny", "0 pound 0 penny", "0 penny 1 pound")

    def test_blanks_and_line_ends(self):
        self.no_text("", " ", "  ", "\n", "1  penny", "1 pound  1 penny", " 1 penny", "1 penny ", "  1 penny",
                     "1 penny  ", "1 penny\n", "\n1 penny", "1\npenny", "1 pound\n1 penny", "1 \npenny",
                     " 0 penny", "0 penny ", "0  penny", "0 penny\n", "1 pound, 1 penny")

    def test_the_greatest_amount_and_one_more(self):
        self.assertEqual(self.money.amount("4166666666666 pound 13 shilling 4 penny"), MOST)
        self.assertEqual(self.money.amount("4166666666666 pound 160 penny"), MOST)
        for text in ("4166666666666 pound 13 shilling 5 penny", "4166666666667 pound", "83333333333334 shilling",
                     "1000000000000000 pound", "9999999999999999 pound 9999999999999999 shilling",
                     "1 pound 1000000000000000 penny", "1000000000000001 penny"):
            self.refused(NoAmount, self.money.amount, text)

    def test_no_text_comes_ahead_of_no_amount(self):
        self.no_text("9999999999999999 pound 1 pound", "9999999999999999 pound ", "9999999999999999 pound 0 penny",
                     "9999999999999999 pound 1 groat", "9999999999999999 penny 1 pound", " 9999999999999999 pound",
                     "9999999999999999 pound 1", "9999999999999999 pound 01 penny", "9999999999999999 pound\n")

    def test_a_refusal_changes_nothing(self):
        self.no_text("1 pound 1 pound")
        self.refused(NoAmount, self.money.amount, "9999999999999999 pound")
        self.refused(NoAmount, self.money.parts, -1)
        self.assertEqual(self.money.units, STERLING)
        self.assertEqual(self.money.amount("3 pound 4 penny"), 724)
        self.assertEqual(self.money.text(724), "3 pound 4 penny")


if __name__ == "__main__":
    unittest.main()
