"""Point 23."""

import unittest

from callcoin.changers import Changers
from callcoin.errors import Lacking, NoMany, NoName, NoRow, NoStock
from tests.cases import NO_NAMES, CoinCase

ROWS = (("york", "groat", 1, "york", "penny", 4), ("york", "penny", 12, "bath", "groat", 3),
        ("bath", "groat", 1000000, "york", "groat", 1))
GROAT, PENNY, BATH = ("york", "groat"), ("york", "penny"), ("bath", "groat")
NO_MANIES = (0, -1, 1000001, 10 ** 20, True, False)


def letters(number):
    """A name for a number below 26 * 26."""
    return "abcdefghijklmnopqrstuvwxyz"[number // 26] + "abcdefghijklmnopqrstuvwxyz"[number % 26]


def line(many):
    """Rows that lead through so many goods, one by one."""
    return [(letters(at), "penny", 1, letters(at + 1), "penny", 1) for at in range(many - 1)]


class TableTest(CoinCase):
    def test_rows_and_goods(self):
        table = Changers(ROWS)
        self.assertEqual(table.rows, ROWS)
        self.assertIs(type(table.rows), tuple)
        self.assertEqual(table.goods(), (GROAT, PENNY, BATH))
        self.assertIs(type(table.goods()), tuple)
        self.assertEqual([type(good) for good in table.goods()], [tuple] * 3)

    def test_goods_stand_as_they_come_first(self):
        table = Changers([("b", "x", 1, "a", "x", 1), ("c", "x", 1, "b", "x", 1), ("a", "x", 1, "b", "y", 1),
                          ("a", "y", 1, "a", "x", 1)])
        self.assertEqual(table.goods(), (("b", "x"), ("a", "x"), ("c", "x"), ("b", "y"), ("a", "y")))

    def test_rows_as_lists_or_tuples_changed_behind_the_call(self):
        rows = [list(ROWS[0]), ROWS[1], list(ROWS[2])]
        for given in (rows, tuple(rows)):
            self.assertEqual(Changers(given).rows, ROWS)
            self.assertEqual([type(row) for row in Changers(given).rows], [tuple] * 3)
        table = Changers(rows)
        self.assertEqual(rows, [list(ROWS[0]), ROWS[1], list(ROWS[2])])
        rows[0][2] = 7
        rows.pop()
        self.assertEqual(table.rows, ROWS)
        self.assertEqual(table.goods(), (GROAT, PENNY, BATH))

    def test_a_town_and_a_kind_of_one_name(self):
        table = Changers([("york", "york", 1, "york", "bath", 1), ("bath", "york", 1, "york", "york", 2)])
        self.assertEqual(table.goods(), (("york", "york"), ("york", "bath"), ("bath", "york")))
        self.assertEqual(table.changed({("bath", "york"): 3}, 1), {("york", "york"): 2, ("bath", "york"): 2})

    def test_the_same_row_twice_and_both_ways(self):
        rows = [ROWS[0], ROWS[0], ("york", "penny", 4, "york", "groat", 1)]
        self.assertEqual(Changers(rows).rows, tuple(rows))
        self.assertEqual(Changers(rows).goods(), (GROAT, PENNY))

    def test_names(self):
        for place in (0, 1, 3, 4):
            for name in ("a", "abcdefgh", "york"):
                row = ["aa", "bb", 1, "cc", "dd", 1]
                row[place] = name
                self.assertEqual(Changers([row]).rows, (tuple(row),))
            for name in NO_NAMES:
                row = ["aa", "bb", 1, "cc", "dd", 1]
                row[place] = name
                self.refused(NoName, Changers, [row])
                self.refused(NoName, Changers, [ROWS[0], tuple(row)])
                # Ahead of all that NoRow is told for.
                self.refused(NoName, Changers, [("york", "groat", 0, "york", "groat", True), row])
                self.refused(NoName, Changers, [row] * 41)
                self.refused(NoName, Changers, [ROWS[0]] * 40 + [row])
                self.refused(NoName, Changers, line(17) + [row])
                row[2] = 0
                self.refused(NoName, Changers, [row])
        self.refused(NoName, Changers, [("", "", 1, "", "", 1)])

    def test_manies(self):
        for place in (2, 5):
            for many in (1, 2, 1000000):
                row = list(ROWS[0])
                row[place] = many
                self.assertEqual(Changers([row]).rows, (tuple(row),))
            for many in NO_MANIES:
                row = list(ROWS[0])
                row[place] = many
                self.refused(NoRow, Changers, [row])
                self.refused(NoRow, Changers, [ROWS[1], row])

    def test_a_row_to_itself(self):
        self.refused(NoRow, Changers, [("york", "groat", 1, "york", "groat", 1)])
        self.refused(NoRow, Changers, [("york", "groat", 1, "york", "groat", 2)])
        self.refused(NoRow, Changers, ROWS + (("york", "groat", 2, "york", "groat", 1),))
        self.assertEqual(len(Changers([("york", "groat", 1, "bath", "groat", 1)]).rows), 1)

    def test_how_many_rows(self):
        self.refused(NoRow, Changers, [])
        self.refused(NoRow, Changers, ())
        self.assertEqual(Changers(ROWS[:1]).rows, ROWS[:1])
        self.assertEqual(len(Changers([ROWS[0]] * 40).rows), 40)
        for many in (41, 42, 1000):
            self.refused(NoRow, Changers, [ROWS[0]] * many)

    def test_how_many_goods(self):
        self.assertEqual(len(Changers(line(16)).goods()), 16)
        self.assertEqual(len(Changers(line(16) * 2).goods()), 16)
        for many in (17, 18, 41):
            self.refused(NoRow, Changers, line(many))


class ChangedTest(CoinCase):
    def setUp(self):
        self.table = Changers(ROWS)

    def test_a_new_dict_in_the_order_of_goods(self):
        stock = {BATH: 5, GROAT: 3}
        after = self.table.changed(stock, 0)
        self.assertEqual(list(after.items()), [(GROAT, 2), (PENNY, 4), (BATH, 5)])
        self.assertEqual(list(stock.items()), [(BATH, 5), (GROAT, 3)])
        after.clear()
        self.assertEqual(list(self.table.changed(stock, 0).items()), [(GROAT, 2), (PENNY, 4), (BATH, 5)])
        self.assertEqual(self.table.rows, ROWS)
        stock[GROAT] = 4
        self.assertEqual(list(self.table.changed(stock, 0).items()), [(GROAT, 3), (PENNY, 4), (BATH, 5)])

    def test_only_goods_of_which_there_are_some(self):
        self.assertEqual(self.table.changed({GROAT: 1, PENNY: 0, BATH: 0}, 0), {PENNY: 4})
        self.assertEqual(self.table.changed({PENNY: 12, GROAT: 0}, 1), {BATH: 3})
        self.assertEqual(self.table.changed({BATH: 1000000}, 2), {GROAT: 1})
        self.assertEqual(self.table.changed({BATH: 1000001}, 2), {GROAT: 1, BATH: 1})

    def test_lots(self):
        self.assertEqual(self.table.changed({PENNY: 40}, 1), {PENNY: 28, BATH: 3})
        self.assertEqual(self.table.changed({PENNY: 40}, 1, 3), {PENNY: 4, BATH: 9})
        self.assertEqual(self.table.changed({PENNY: 40}, 1, lots=2), {PENNY: 16, BATH: 6})
        many = 10 ** 5000 + 7
        self.assertEqual(self.table.changed({GROAT: many + 1}, 0, many), {GROAT: 1, PENNY: 4 * many})
        self.assertEqual(self.table.changed({GROAT: many, PENNY: 3}, 0, lots=many), {PENNY: 4 * many + 3})

    def test_no_stock(self):
        for stock in ({("hull", "groat"): 1}, {("groat", "york"): 0}, {("bath", "penny"): 5, GROAT: 5}, {GROAT: -1},
                      {GROAT: 5, BATH: -10 ** 30}, {GROAT: True}, {GROAT: 5, PENNY: False}, {("York", ""): 1}):
            for number in (0, -1, 3, True):
                for lots in (1, 0, True, 10 ** 9):
                    self.refused(NoStock, self.table.changed, stock, number, lots)

    def test_no_row(self):
        for number in (-1, 3, 4, -3, 10 ** 20, True, False):
            for lots in (1, 0, -1, True, 10 ** 9):
                self.refused(NoRow, self.table.changed, {GROAT: 5}, number, lots)
                self.refused(NoRow, self.table.changed, {}, number, lots)

    def test_no_many(self):
        for lots in (0, -1, -10 ** 20, True, False):
            for number in (0, 1, 2):
                self.refused(NoMany, self.table.changed, {GROAT: 5}, number, lots)
                self.refused(NoMany, self.table.changed, {}, number, lots=lots)

    def test_lacking(self):
        rows = (({}, 0, 1, "groat", 1), ({GROAT: 0}, 0, 1, "groat", 1), ({GROAT: 4}, 0, 5, "groat", 1), ({PENNY: 11}, 1, 1, "penny", 1),
                ({PENNY: 11, GROAT: 99}, 1, 2, "penny", 13), ({BATH: 1}, 2, 1, "groat", 999999), ({GROAT: 9}, 2, 3, "groat", 3000000),
                ({GROAT: 1}, 0, 10 ** 30, "groat", 10 ** 30 - 1), ({}, 0, 10 ** 5000, "groat", 10 ** 5000))
        for stock, number, lots, name, many in rows:
            kept = dict(stock)
            lacking = self.refused(Lacking, self.table.changed, stock, number, lots)
            self.assertEqual((lacking.name, lacking.many), (name, many))
            self.assertEqual(stock, kept)
            self.assertEqual(self.table.rows, ROWS)


if __name__ == "__main__":
    unittest.main()
