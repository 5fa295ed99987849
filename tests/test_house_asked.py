"""Point 30: the questions to a house."""

import unittest

from callcoin.errors import NoBook, NoDay, NoDebt, NoName
from callcoin.house import House
from callcoin.terms import Called, Least, Level
from tests.cases import NO_DAYS, NO_NAMES, CoinCase
from tests.slowhouse import KINDS

PAID, MADE = Called("paid"), Called("made")
STRANGERS = NO_NAMES + ("dan", "groat", "york")
NO_KINDS = NO_NAMES + ("noble", "ann", "york")
NO_BOOKS = (-1, 13, 14, 10 ** 20, True, False)
NO_DEBTS = (0, -1, 1, 3, 13, 10 ** 20, True, False)
TELLINGS = (
    (5, ("strike", "ann", "groat", 6)),
    (5, ("call", "york", "groat", 48)),
    (3, ("call", "bath", "groat", 20)),
    (6, ("lend", "ann", "bob", "york", 100, PAID)),
    (6, ("give", "ann", "bob", "groat", 40, 4)),
    (7, ("clip", "bob", "groat", 40, 30, 1)),
    (8, ("pay", 4, "groat", 40, 2)),
    (8, ("call", "york", "groat", 60)),
    (4, ("strike", "bob", "penny", 5)),
    (9, ("bring", "bob", "penny", 10, 2)),
    (6, ("lend", "bob", "bob", "bath", 0, MADE)),
    (2, ("lend", "cid", "bob", "bath", 7, Least([MADE, Level(5)]))),
)


class AskedCase(CoinCase):
    def setUp(self):
        self.house = House(KINDS, ["ann", "bob", "cid"])
        for day, deed in TELLINGS:
            self.house.tell(day, deed)


class ByDaysTest(AskedCase):
    def test_held(self):
        rows = ((None, [("groat", 40, 1), ("groat", 30, 1), ("penny", 10, 3)]), (3, []), (4, [("penny", 10, 5)]), (5, [("penny", 10, 5)]),
                (6, [("groat", 40, 4), ("penny", 10, 5)]), (7, [("groat", 40, 3), ("groat", 30, 1), ("penny", 10, 5)]),
                (8, [("groat", 40, 1), ("groat", 30, 1), ("penny", 10, 5)]), (9999, [("groat", 40, 1), ("groat", 30, 1), ("penny", 10, 3)]))
        for day, held in rows:
            self.assertEqual(self.house.held("bob", day), held)
            self.assertEqual(self.house.held("bob", day=day), held)
            self.assertEqual(self.house.held("cid", day), [])
        self.assertEqual(self.house.held("bob"), rows[0][1])
        self.assertEqual(self.house.held("ann"), [("groat", 40, 4)])

    def test_there_and_clipped(self):
        self.assertEqual([self.house.there("groat", day) for day in (None, 0, 4, 5, 9999)], [6, 0, 0, 6, 6])
        self.assertEqual([self.house.there("penny", day) for day in (None, 3, 4, 8, 9, 9999)], [3, 0, 5, 5, 3, 3])
        self.assertEqual([self.house.clipped("groat", day) for day in (None, 6, 7, 9999)], [10, 0, 10, 10])
        self.assertEqual((self.house.there("penny", day=8), self.house.clipped("groat", day=6)), (5, 0))
        self.assertEqual((self.house.there("penny"), self.house.clipped("groat"), self.house.clipped("penny")), (3, 10, 0))

    def test_left_over_and_owed(self):
        self.assertEqual([self.house.left(4, day) for day in (None, 6, 7, 8, 9999)], [0, 100, 100, 0, 0])
        self.assertEqual([self.house.over(4, day) for day in (None, 6, 7, 8, 9999)], [20, 0, 0, 20, 20])
        self.assertEqual((self.house.left(4, day=7), self.house.over(4, day=8), self.house.left(4), self.house.over(4)), (100, 20, 0, 20))
        self.assertEqual([self.house.owed("bob", day) for day in (None, 0, 1, 2, 5, 6, 7, 8)], [[12], [], [], [12], [12], [4, 12], [4, 12], [12]])
        self.assertEqual((self.house.owed("bob", day=6), self.house.owed("bob"), self.house.owed("ann"), self.house.owed("cid")), ([4, 12], [12], [], []))
        self.assertEqual((self.house.left(11), self.house.over(11), self.house.left(12)), (0, 0, 7))

    def test_worth(self):
        self.assertEqual([self.house.worth("bob", "york", day) for day in (4, 5, 6, 7, 8, 9999)], [0, 0, 192, 180, 105, 105])
        self.assertEqual([self.house.worth("ann", "bath", day) for day in (4, 5, 6, 8)], [0, 120, 40, 80])
        self.assertEqual(self.house.worth("ann", "hull", 9), 0)
        self.assertEqual(self.house.worth("cid", "york", 9), 0)

    def test_dead(self):
        self.assertEqual(self.house.dead("york", 8), [("bob", "penny", 10, 5)])
        self.assertEqual(self.house.dead("york", 4), [("bob", "penny", 10, 5)])
        self.assertEqual(self.house.dead("hull", 8), [("ann", "groat", 40, 4), ("bob", "groat", 40, 1), ("bob", "groat", 30, 1), ("bob", "penny", 10, 5)])
        self.assertEqual(self.house.dead("hull", 3), [])
        self.house.tell(7, ("call", "york", "penny", 1))
        self.assertEqual(self.house.dead("york", 8), [])
        self.assertEqual(self.house.dead("york", 6), [("bob", "penny", 10, 5)])
        # A light piece that counts 0 is not dead: its call is more.
        self.house.tell(7, ("clip", "bob", "penny", 10, 1, 1))
        self.assertEqual(self.house.dead("york", 8), [])
        self.assertEqual(self.house.worth("bob", "york", 8), 105 + 4)
        self.house.tell(8, ("call", "york", "penny", 0))
        self.assertEqual(self.house.dead("york", 8), [("bob", "penny", 10, 4), ("bob", "penny", 1, 1)])


class AsKnownTest(AskedCase):
    def test_known_by_its_place_and_by_its_name(self):
        self.assertEqual(self.house.held("ann", None, 4), [("groat", 40, 6)])
        self.assertEqual(self.house.held("ann", known=5), [("groat", 40, 2)])
        self.assertEqual(self.house.held("ann", known=0), [])
        self.assertEqual(self.house.held("ann", 5, known=5), [("groat", 40, 6)])
        self.assertEqual(self.house.held("ann", known=12, day=6), [("groat", 40, 2)])
        self.assertEqual(self.house.there("penny", None, 8), 0)
        self.assertEqual(self.house.there("penny", None, 9), 5)
        self.assertEqual(self.house.there("penny", known=10, day=9), 3)
        self.assertEqual((self.house.clipped("groat", None, 5), self.house.clipped("groat", 7, known=6)), (0, 10))
        self.assertEqual((self.house.owed("bob", None, 3), self.house.owed("bob", None, 6), self.house.owed("bob", known=7)), ([], [4], [4]))
        self.assertEqual(self.house.owed("bob", known=8), [])
        self.assertEqual((self.house.worth("ann", "york", 8, 7), self.house.worth("ann", "york", 8, known=8)), (192, 240))
        self.assertEqual((self.house.dead("bath", 8, 2), self.house.dead("bath", 8, known=3)), ([("ann", "groat", 40, 6)], []))

    def test_left_and_over_by_all_calls_as_known_whatever_their_days(self):
        self.assertEqual((self.house.left(4, None, 7), self.house.left(4, 8, 7), self.house.left(4, 8, known=8)), (4, 4, 0))
        self.assertEqual((self.house.over(4, None, 7), self.house.over(4, 8, 8)), (0, 20))
        house = House(KINDS, ["ann"])
        house.tell(2, ("strike", "ann", "groat", 1))
        house.tell(2, ("lend", "ann", "ann", "york", 50, Called(9)))
        house.tell(2, ("pay", 2, "groat", 40, 1))
        self.assertEqual((house.left(2, 2), house.over(2, 2), house.owed("ann", 2)), (50, 0, [2]))
        # The call of a day behind the one that is asked for counts as soon as it is known.
        house.tell(9, ("call", "york", "groat", 60))
        self.assertEqual((house.left(2, 2), house.over(2, 2), house.owed("ann", 2)), (0, 10, []))
        self.assertEqual((house.left(2, 2, 3), house.over(2, 2, 3), house.owed("ann", 2, 3)), (50, 0, [2]))
        house.tell(9, ("call", "york", "groat", 40))
        self.assertEqual((house.left(2, 2), house.left(2, 2, 4), house.left(2, 2, 3)), (10, 0, 50))

    def test_lists_are_the_askers_own(self):
        asked = (lambda: self.house.held("ann"), lambda: self.house.owed("bob"), lambda: self.house.dead("hull", 8))
        for ask in asked:
            told = ask()
            self.assertIs(type(told), list)
            kept = list(told)
            told.clear()
            self.assertEqual(ask(), kept)
            self.assertTrue(kept)
        self.assertEqual([type(row) for row in self.house.held("bob") + self.house.dead("hull", 8)], [tuple] * 7)


class RefusalsTest(AskedCase):
    def of_who(self):
        return ((self.house.held, STRANGERS, "ann"), (self.house.owed, STRANGERS, "ann"), (self.house.there, NO_KINDS, "groat"),
                (self.house.clipped, NO_KINDS, "groat"))

    def test_names_days_and_books_in_order(self):
        for ask, strange, good in self.of_who():
            for name in strange:
                self.refused(NoName, ask, name)
                for day in (None, 5, -1, True):
                    for known in (None, 0, -1, 99, True):
                        self.refused(NoName, ask, name, day, known)
            for day in NO_DAYS:
                self.refused(NoDay, ask, good, day)
                self.refused(NoDay, ask, good, day=day)
                for known in (None, 0, -1, 99, True):
                    self.refused(NoDay, ask, good, day, known)
            for known in NO_BOOKS:
                self.refused(NoBook, ask, good, None, known)
                self.refused(NoBook, ask, good, 5, known)
                self.refused(NoBook, ask, good, known=known)

    def test_of_debts(self):
        for ask in (self.house.left, self.house.over):
            for debt in NO_DEBTS:
                for day in NO_DAYS:
                    for known in (None, 0, -1, True):
                        self.refused(NoDay, ask, debt, day, known)
                        self.refused(NoDay, ask, 4, day, known)
                for known in NO_BOOKS:
                    self.refused(NoBook, ask, debt, None, known)
                    self.refused(NoBook, ask, 4, 9, known)
                self.refused(NoDebt, ask, debt)
                self.refused(NoDebt, ask, debt, 9)
                self.refused(NoDebt, ask, debt, None, 12)
            self.refused(NoDebt, ask, 4, 5)
            self.refused(NoDebt, ask, 4, None, 3)
            self.refused(NoDebt, ask, 4, known=0)
            self.refused(NoDebt, ask, 12, 1)
            self.refused(NoDebt, ask, 12, 2, 11)
            self.assertGreaterEqual(ask(12, 2, 12), 0)

    def test_a_truth_is_no_debt(self):
        house = House(KINDS, ["ann"])
        house.tell(0, ("lend", "ann", "ann", "york", 50, PAID))
        self.assertEqual(house.left(1), 50)
        self.refused(NoDebt, house.left, True)
        self.refused(NoDebt, house.over, True)

    def test_worth_and_dead(self):
        for known in (None, 0, -1, 99, True):
            for day in (5, None, -1, True):
                for name in STRANGERS:
                    self.refused(NoName, self.house.worth, name, "york", day, known)
                for name in NO_NAMES:
                    self.refused(NoName, self.house.worth, "ann", name, day, known)
                    self.refused(NoName, self.house.dead, name, day, known)
            for day in NO_DAYS + (None,):
                self.refused(NoDay, self.house.worth, "ann", "york", day, known)
                self.refused(NoDay, self.house.dead, "york", day, known)
        for known in NO_BOOKS:
            self.refused(NoBook, self.house.worth, "ann", "york", 5, known)
            self.refused(NoBook, self.house.dead, "york", 5, known=known)
        self.assertEqual(self.house.worth("ann", "york", 5, None), 288)

    def test_the_edges_of_known(self):
        for ask, strange, good in self.of_who():
            self.assertEqual(ask(good, None, 12), ask(good))
            ask(good, None, 0)
        house = House(KINDS, ["ann"])
        self.assertEqual(house.held("ann", None, 0), [])
        self.refused(NoBook, house.held, "ann", None, 1)


class PiecesTest(AskedCase):
    def test_pieces(self):
        self.assertEqual(self.house.pieces("bob", "york", 8), [("groat", 40, 60), ("groat", 30, 45)] + [("penny", 10, 0)] * 5)
        self.assertEqual(self.house.pieces("ann", "bath", 6), [("groat", 40, 20)] * 2)
        self.refused(NoName, self.house.pieces, "dan", "york", 8)


if __name__ == "__main__":
    unittest.main()
