"""Points 28 and 29: houses, and the telling of deeds."""

import unittest

from callcoin.errors import Lacking, NoAmount, NoDay, NoDebt, NoDeed, NoKinds, NoMany, NoName, NoPeople, NoWeight, NoWorth, Shut, TooMany
from callcoin.house import House
from callcoin.kinds import Kind
from callcoin.terms import Called, Level
from tests.cases import NO_AMOUNTS, NO_DAYS, NO_NAMES, NO_WORTHS, CoinCase

GROAT, PENNY = Kind("groat", 40, 36), Kind("penny", 10, 9)
KINDS = [GROAT, PENNY]
PEOPLE = ["ann", "bob", "cid"]
PAID = Called("paid")
NO_MANIES = (0, -1, 1000001, 10 ** 20, True, False)
STRANGERS = NO_NAMES + ("dan", "groat", "york")
NO_KINDS = NO_NAMES + ("noble", "ann", "york")
WEIGHTS_OF_NO_GROAT = (0, -1, 41, 10 ** 20, True, False)


class HouseCase(CoinCase):
    def setUp(self):
        self.house = House(KINDS, PEOPLE)

    def tell(self, *rows):
        """Tells rows (day, deed), and tells the numbers."""
        return [self.house.tell(day, deed) for day, deed in rows]

    def look(self):
        """All that the house tells."""
        told = []
        for day in (None, 0, 4, 5, 6, 9, 10, 9999):
            for who in PEOPLE:
                told += [self.house.held(who, day), self.house.owed(who, day)]
            for name in ("groat", "penny"):
                told += [self.house.there(name, day), self.house.clipped(name, day)]
            for debt in range(1, 12):
                for ask in (self.house.left, self.house.over):
                    try:
                        told.append(ask(debt, day))
                    except NoDebt:
                        told.append(None)
            if day is not None:
                told += [self.house.dead(town, day) for town in ("york", "bath")]
                told += [self.house.worth(who, town, day) for who in PEOPLE for town in ("york", "bath")]
        return told

    def undone(self, error, day, deed):
        """Looks for a refusal that changes nothing, and tells it."""
        before = self.look()
        refusal = self.refused(error, self.house.tell, day, deed)
        self.assertEqual(self.look(), before)
        return refusal

    def lacking(self, day, deed, name, many):
        """Looks for pieces that are not there."""
        refusal = self.undone(Lacking, day, deed)
        self.assertEqual((refusal.name, refusal.many), (name, many))


class NewHouseTest(CoinCase):
    def test_bounds(self):
        kinds = [Kind(letter, 10, 5) for letter in "abcdefghijkl"]
        people = list("abcdefgh")
        for some_kinds, some_people in ((kinds, people), (tuple(kinds), tuple(people)), (kinds[:1], people[:1])):
            house = House(some_kinds, some_people)
            self.assertEqual([house.held(who) for who in some_people], [[]] * len(some_people))
            self.assertEqual(house.tell(0, ("strike", some_people[-1], some_kinds[-1].name, 1)), 1)

    def test_refusals_in_order(self):
        kinds = [Kind(letter, 10, 5) for letter in "abcdefghijklm"]
        for bad in ([], (), kinds, [GROAT, GROAT], [GROAT, PENNY, Kind("groat", 3, 3)]):
            for people in (PEOPLE, [], ["Ann"], ["ann", "ann"], list("abcdefghi")):
                self.refused(NoKinds, House, bad, people)
        for name in NO_NAMES:
            for people in ([name], ["ann", name], [name, name], ["ann", "ann", name], list("abcdefghi") + [name]):
                self.refused(NoName, House, KINDS, people)
        for people in ([], (), list("abcdefghi"), ["ann", "ann"], ("ann", "bob", "ann"), ["ann"] * 9):
            self.refused(NoPeople, House, KINDS, people)

    def test_what_is_handed_in_may_be_changed_behind_the_call(self):
        kinds, people = list(KINDS), list(PEOPLE)
        house = House(kinds, people)
        self.assertEqual((kinds, people), (KINDS, PEOPLE))
        kinds.clear()
        people[0] = "dan"
        self.assertEqual(house.tell(0, ("strike", "ann", "penny", 1)), 1)
        self.refused(NoName, house.tell, 0, ("strike", "dan", "penny", 1))

    def test_people_and_kinds_and_towns_of_one_name(self):
        house = House([Kind("ann", 5, 5)], ["ann", "strike"])
        house.tell(0, ("strike", "ann", "ann", 3))
        house.tell(0, ("give", "ann", "strike", "ann", 5, 1))
        house.tell(0, ("call", "ann", "ann", 7))
        self.assertEqual(house.held("strike"), [("ann", 5, 1)])
        self.assertEqual(house.worth("ann", "ann", 0), 14)


class DoneTest(HouseCase):
    def test_tellings_are_numbered(self):
        self.assertEqual(self.tell((5, ("strike", "ann", "groat", 2)), (3, ("call", "york", "groat", 9)), (9999, ("shut", "groat"))), [1, 2, 3])
        self.undone(Shut, 9999, ("strike", "ann", "groat", 1))
        self.undone(NoDeed, 9999, ())
        self.assertEqual(self.tell((0, ("shut", "penny"))), [4])

    def test_strike(self):
        self.tell((5, ("strike", "ann", "groat", 2)), (5, ("strike", "ann", "penny", 1000000)), (6, ("strike", "ann", "penny", 1000000)))
        self.assertEqual(self.house.held("ann"), [("groat", 40, 2), ("penny", 10, 2000000)])
        self.assertEqual(self.house.held("ann", 5), [("groat", 40, 2), ("penny", 10, 1000000)])
        self.assertEqual((self.house.there("groat"), self.house.there("penny")), (2, 2000000))

    def test_bring(self):
        self.tell((5, ("strike", "ann", "groat", 5)), (5, ("clip", "ann", "groat", 40, 30, 2)), (6, ("bring", "ann", "groat", 30, 1)))
        self.assertEqual(self.house.held("ann"), [("groat", 40, 3), ("groat", 30, 1)])
        self.assertEqual((self.house.there("groat"), self.house.there("groat", 5), self.house.clipped("groat")), (4, 5, 20))
        self.tell((6, ("bring", "ann", "groat", 40, 3)))
        self.assertEqual(self.house.held("ann"), [("groat", 30, 1)])
        self.lacking(6, ("bring", "ann", "groat", 30, 5), "groat", 4)
        self.lacking(6, ("bring", "ann", "groat", 40, 1), "groat", 1)
        self.lacking(6, ("bring", "bob", "groat", 30, 1), "groat", 1)
        self.lacking(4, ("bring", "ann", "groat", 40, 3), "groat", 3)

    def test_give(self):
        self.tell((5, ("strike", "ann", "groat", 5)), (5, ("give", "ann", "bob", "groat", 40, 2)))
        self.assertEqual((self.house.held("ann"), self.house.held("bob")), ([("groat", 40, 3)], [("groat", 40, 2)]))
        self.lacking(5, ("give", "ann", "bob", "groat", 40, 4), "groat", 1)
        self.lacking(5, ("give", "ann", "bob", "groat", 39, 4), "groat", 4)
        self.lacking(5, ("give", "bob", "ann", "penny", 10, 1), "penny", 1)
        self.lacking(4, ("give", "ann", "bob", "groat", 40, 1), "groat", 1)

    def test_give_to_oneself(self):
        self.tell((5, ("strike", "ann", "groat", 5)), (5, ("give", "ann", "ann", "groat", 40, 5)))
        self.assertEqual(self.house.held("ann"), [("groat", 40, 5)])
        self.lacking(5, ("give", "ann", "ann", "groat", 40, 6), "groat", 1)
        self.lacking(5, ("give", "bob", "bob", "groat", 40, 1), "groat", 1)

    def test_clip(self):
        self.tell((5, ("strike", "ann", "groat", 5)), (6, ("clip", "ann", "groat", 40, 39, 2)), (7, ("clip", "ann", "groat", 39, 1, 1)))
        self.assertEqual(self.house.held("ann"), [("groat", 40, 3), ("groat", 39, 1), ("groat", 1, 1)])
        self.assertEqual([self.house.clipped("groat", day) for day in (5, 6, 7, None)], [0, 2, 40, 40])
        self.assertEqual(self.house.clipped("penny"), 0)
        self.lacking(7, ("clip", "ann", "groat", 39, 2, 3), "groat", 2)
        self.lacking(5, ("clip", "ann", "groat", 39, 2, 1), "groat", 1)

    def test_shut(self):
        self.tell((5, ("strike", "ann", "groat", 6)), (5, ("bring", "ann", "groat", 40, 1)), (5, ("shut", "groat")))
        self.undone(Shut, 5, ("strike", "ann", "groat", 1))
        self.undone(Shut, 5, ("bring", "ann", "groat", 40, 1))
        self.undone(Shut, 9999, ("bring", "ann", "groat", 40, 1))
        # Shut comes ahead of Lacking.
        self.undone(Shut, 6, ("bring", "bob", "groat", 7, 9))
        self.tell((4, ("strike", "bob", "groat", 1)), (4, ("bring", "bob", "groat", 40, 1)), (6, ("strike", "bob", "penny", 1)))
        self.tell((6, ("give", "ann", "bob", "groat", 40, 1)), (6, ("clip", "ann", "groat", 40, 20, 1)))
        self.assertEqual(self.house.there("groat"), 5)

    def test_shut_twice_and_earlier(self):
        self.tell((5, ("shut", "groat")), (5, ("shut", "groat")), (9, ("shut", "groat")))
        self.undone(Shut, 7, ("strike", "ann", "groat", 1))
        self.tell((4, ("strike", "ann", "groat", 1)), (3, ("strike", "ann", "groat", 1)))
        # What was struck on day 4 stands in the way of shutting on that day, too, if told late for an earlier one.
        self.undone(Shut, 3, ("shut", "groat"))
        self.tell((4, ("shut", "groat")))
        self.undone(Shut, 4, ("strike", "ann", "groat", 1))
        self.tell((3, ("strike", "ann", "groat", 1)))

    def test_lend_and_pay(self):
        rows = ((5, ("call", "york", "groat", 48)), (5, ("lend", "ann", "bob", "york", 100, PAID)), (5, ("strike", "bob", "groat", 4)))
        self.assertEqual(self.tell(*rows), [1, 2, 3])
        self.assertEqual((self.house.left(2), self.house.over(2), self.house.owed("bob"), self.house.owed("ann")), (100, 0, [2], []))
        self.assertEqual(self.tell((6, ("pay", 2, "groat", 40, 2))), [4])
        self.assertEqual((self.house.held("ann"), self.house.held("bob")), ([("groat", 40, 2)], [("groat", 40, 2)]))
        self.assertEqual((self.house.left(2), self.house.left(2, 5), self.house.owed("bob")), (4, 100, [2]))
        self.lacking(6, ("pay", 2, "groat", 40, 3), "groat", 1)
        self.lacking(5, ("pay", 2, "groat", 40, 3), "groat", 1)
        self.tell((7, ("pay", 2, "groat", 40, 1)))
        self.assertEqual((self.house.left(2), self.house.over(2), self.house.owed("bob")), (0, 44, []))
        # Met, it may be paid on.
        self.tell((8, ("pay", 2, "groat", 40, 1)))
        self.assertEqual((self.house.over(2), self.house.held("bob")), (92, []))

    def test_lend_to_oneself(self):
        self.tell((5, ("lend", "ann", "ann", "york", 100, Level(60))), (5, ("strike", "ann", "groat", 1)))
        self.assertEqual(self.house.owed("ann"), [1])
        self.lacking(5, ("pay", 1, "groat", 40, 2), "groat", 1)
        self.tell((5, ("pay", 1, "groat", 40, 1)), (5, ("pay", 1, "groat", 40, 1)))
        self.assertEqual((self.house.held("ann"), self.house.over(1), self.house.owed("ann")), ([("groat", 40, 1)], 20, []))

    def test_a_debt_that_is_not_there(self):
        self.tell((5, ("strike", "bob", "groat", 4)), (5, ("lend", "ann", "bob", "york", 100, PAID)))
        for debt in (0, -1, 1, 3, 4, 10 ** 20, True, False):
            self.undone(NoDebt, 9, ("pay", debt, "groat", 40, 1))
            self.undone(NoDebt, 9, ("pay", debt, "groat", 3, 1000))
        self.undone(NoDebt, 4, ("pay", 2, "groat", 40, 1))
        # On the day itself, told behind it.
        self.tell((5, ("pay", 2, "groat", 40, 1)))
        # Its own number is no debt's.
        self.undone(NoDebt, 5, ("pay", 4, "groat", 40, 1))

    def test_a_truth_is_no_debt(self):
        self.tell((5, ("lend", "ann", "bob", "york", 100, PAID)), (5, ("strike", "bob", "groat", 4)))
        self.undone(NoDebt, 5, ("pay", True, "groat", 40, 1))
        self.tell((5, ("pay", 1, "groat", 40, 1)))

    def test_calls_are_for_the_whole_day(self):
        self.tell((5, ("lend", "ann", "bob", "york", 100, PAID)), (5, ("strike", "bob", "groat", 4)), (6, ("pay", 1, "groat", 40, 1)))
        self.assertEqual(self.house.left(1), 100)
        self.tell((6, ("call", "york", "groat", 48)))
        self.assertEqual(self.house.left(1), 52)
        self.tell((6, ("call", "york", "groat", 50)))
        self.assertEqual(self.house.left(1), 50)
        self.tell((5, ("call", "york", "groat", 9)))
        self.assertEqual(self.house.left(1), 50)


class LateTest(HouseCase):
    def test_deeds_of_one_day_as_told(self):
        self.lacking(5, ("bring", "ann", "groat", 40, 1), "groat", 1)
        self.tell((5, ("strike", "ann", "groat", 1)), (5, ("bring", "ann", "groat", 40, 1)), (5, ("strike", "ann", "groat", 1)))
        self.assertEqual(self.house.there("groat"), 1)

    def test_late_deeds_that_can_be_done(self):
        self.tell((9, ("strike", "ann", "groat", 2)), (3, ("strike", "ann", "groat", 1)), (5, ("give", "ann", "bob", "groat", 40, 1)))
        self.assertEqual(self.house.held("bob", 5), [("groat", 40, 1)])
        self.assertEqual(self.house.held("ann", 5), [])

    def test_late_deeds_that_make_a_later_one_impossible(self):
        self.tell((3, ("strike", "ann", "groat", 3)), (8, ("give", "ann", "bob", "groat", 40, 2)), (9, ("bring", "bob", "groat", 40, 2)))
        self.lacking(5, ("bring", "ann", "groat", 40, 2), "groat", 1)
        self.lacking(8, ("bring", "ann", "groat", 40, 2), "groat", 1)
        self.lacking(5, ("give", "ann", "cid", "groat", 40, 3), "groat", 2)
        self.lacking(8, ("clip", "bob", "groat", 40, 39, 2), "groat", 2)
        self.undone(Shut, 8, ("shut", "groat"))
        self.tell((9, ("shut", "groat")), (5, ("bring", "ann", "groat", 40, 1)))
        self.assertEqual(self.house.held("ann"), [])

    def test_it_is_refused_with_what_the_first_lacks(self):
        self.tell((3, ("strike", "ann", "groat", 9)), (5, ("give", "ann", "bob", "groat", 40, 5)), (6, ("bring", "ann", "groat", 40, 4)),
                  (7, ("bring", "bob", "groat", 40, 5)))
        # By day 5 three are lacking, by day 6 more would be.
        self.lacking(4, ("give", "ann", "cid", "groat", 40, 7), "groat", 3)
        self.lacking(5, ("give", "ann", "cid", "groat", 40, 3), "groat", 3)
        # This very deed is the first that can't be done.
        self.lacking(3, ("give", "ann", "cid", "groat", 40, 10), "groat", 1)
        self.undone(Shut, 5, ("shut", "groat"))
        self.undone(Shut, 6, ("shut", "groat"))
        self.tell((7, ("shut", "groat")))

    def test_unlike_refusals(self):
        self.tell((3, ("strike", "ann", "penny", 2)), (3, ("strike", "ann", "groat", 2)), (4, ("bring", "ann", "penny", 10, 2)),
                  (5, ("strike", "ann", "groat", 1)))
        self.lacking(3, ("clip", "ann", "penny", 10, 9, 1), "penny", 1)
        self.undone(Shut, 3, ("shut", "penny"))
        self.undone(Shut, 4, ("shut", "groat"))

    def test_a_debt_paid_ahead_of_it(self):
        self.tell((3, ("strike", "bob", "groat", 2)), (6, ("lend", "ann", "bob", "york", 100, PAID)))
        self.undone(NoDebt, 5, ("pay", 2, "groat", 40, 1))
        self.tell((6, ("pay", 2, "groat", 40, 1)), (4, ("strike", "bob", "groat", 1)))
        self.lacking(5, ("give", "bob", "cid", "groat", 40, 3), "groat", 1)


class RefusalsTest(HouseCase):
    GOOD = (
        (("call", "york", "groat", 48), (NoName, NO_NAMES), (NoName, NO_KINDS), (NoWorth, NO_WORTHS)),
        (("strike", "ann", "groat", 1), (NoName, STRANGERS), (NoName, NO_KINDS), (NoMany, NO_MANIES)),
        (("bring", "ann", "groat", 40, 1), (NoName, STRANGERS), (NoName, NO_KINDS), (NoWeight, WEIGHTS_OF_NO_GROAT), (NoMany, NO_MANIES)),
        (("shut", "groat"), (NoName, NO_KINDS)),
        (("give", "ann", "bob", "groat", 40, 1), (NoName, STRANGERS), (NoName, STRANGERS), (NoName, NO_KINDS),
         (NoWeight, WEIGHTS_OF_NO_GROAT), (NoMany, NO_MANIES)),
        (("clip", "ann", "groat", 40, 39, 1), (NoName, STRANGERS), (NoName, NO_KINDS), (NoWeight, WEIGHTS_OF_NO_GROAT),
         (NoWeight, (0, -1, 40, 41, True, False)), (NoMany, NO_MANIES)),
        (("lend", "ann", "bob", "york", 100, PAID), (NoName, STRANGERS), (NoName, STRANGERS), (NoName, NO_NAMES), (NoAmount, NO_AMOUNTS),
         (None, ())),
        (("pay", 5, "groat", 40, 1), (None, ()), (NoName, NO_KINDS), (NoWeight, WEIGHTS_OF_NO_GROAT), (NoMany, NO_MANIES)),
    )

    def setUp(self):
        HouseCase.setUp(self)
        self.tell((5, ("strike", "ann", "groat", 9)), (5, ("strike", "bob", "groat", 9)), (5, ("call", "york", "groat", 48)),
                  (5, ("strike", "cid", "penny", 3)), (5, ("lend", "cid", "bob", "york", 50, PAID)))

    def test_each_can_be_done_as_it_is(self):
        for number, (deed, *parts) in enumerate(self.GOOD[:3] + self.GOOD[4:] + self.GOOD[3:4], start=6):
            self.assertEqual(self.house.tell(6, deed), number)

    def test_each_part_alone_and_with_those_behind(self):
        before = self.look()
        for deed, *parts in self.GOOD:
            for at, (error, values) in enumerate(parts, start=1):
                for value in values:
                    given = deed[:at] + (value,) + deed[at + 1:]
                    self.refused(error, self.house.tell, 6, given)
                    for behind in range(at + 1, len(deed)):
                        for worse in parts[behind - 1][1][:1] + parts[behind - 1][1][-1:]:
                            self.refused(error, self.house.tell, 6, given[:behind] + (worse,) + given[behind + 1:])
        self.assertEqual(self.look(), before)

    def test_parts_come_ahead_of_the_doing(self):
        self.tell((5, ("shut", "penny")))
        before = self.look()
        rows = ((NoMany, ("strike", "ann", "penny", 0)), (NoMany, ("bring", "ann", "penny", 10, True)), (NoWeight, ("bring", "ann", "penny", 11, 1)),
                (NoMany, ("give", "ann", "bob", "penny", 10, 0)), (NoWeight, ("clip", "ann", "penny", 5, 5, 1)), (NoMany, ("pay", 99, "groat", 40, 0)),
                (NoWeight, ("pay", 99, "groat", 41, 1)), (NoName, ("pay", True, "noble", 40, 1)), (NoName, ("pay", 99, "noble", 0, 0)))
        for error, deed in rows:
            self.refused(error, self.house.tell, 6, deed)
        self.assertEqual(self.look(), before)

    def test_a_weight_of_the_very_kind(self):
        self.refused(NoWeight, self.house.tell, 6, ("give", "cid", "ann", "penny", 11, 1))
        self.tell((6, ("give", "cid", "ann", "penny", 10, 1)))
        self.refused(NoWeight, self.house.tell, 6, ("clip", "cid", "penny", 10, 10, 1))
        self.tell((6, ("clip", "cid", "penny", 10, 1, 1)))
        self.refused(NoWeight, self.house.tell, 6, ("clip", "cid", "penny", 1, 1, 1))
        self.refused(NoWeight, self.house.tell, 6, ("clip", "cid", "penny", 1, 0, 1))

    def test_no_deed(self):
        rows = [(), ("strik",), ("Strike", "ann", "groat", 1), ("", "ann", "groat", 1), ("strike ", "ann", "groat", 1), ("held", "ann"),
                ("ann", "groat", 1), (5, "ann", "groat", 1), (None,), (True, "ann"), (("strike",), "ann", "groat", 1), ("who",)]
        for deed, *parts in self.GOOD:
            rows += [deed[:1], deed[:-1], deed + (1,), deed + deed[1:], deed[1:]]
        for deed in rows:
            self.undone(NoDeed, 6, deed)
            self.refused(NoDay, self.house.tell, -1, deed)

    def test_no_day(self):
        for day in NO_DAYS + (None,):
            self.refused(NoDay, self.house.tell, day, ("strike", "ann", "groat", 1))
            self.refused(NoDay, self.house.tell, day, ("strike", "dan", "noble", 0))
            self.refused(NoDay, self.house.tell, day, ("strike",))
        self.assertEqual(self.tell((9999, ("shut", "penny")), (0, ("strike", "ann", "penny", 1))), [6, 7])

    def test_a_wrong_length_comes_ahead_of_wrong_parts(self):
        self.refused(NoDeed, self.house.tell, 6, ("strike", "dan", "noble", 0, 0))
        self.refused(NoDeed, self.house.tell, 6, ("shut",))
        self.refused(NoDeed, self.house.tell, 6, ("lend", "dan", "bob", "York", -1))

    def test_100_tellings_and_101(self):
        for number in range(6, 101):
            self.assertEqual(self.house.tell(number % 9, ("call", "york", "groat", number)), number)
        before = self.look()
        self.refused(TooMany, self.house.tell, 6, ("strike", "ann", "groat", 1))
        self.refused(TooMany, self.house.tell, 6, ("shut", "groat"))
        # Ahead of what the parts and the doing are refused with, behind the day and the form.
        self.refused(TooMany, self.house.tell, 6, ("strike", "dan", "noble", 0))
        self.refused(TooMany, self.house.tell, 6, ("bring", "ann", "groat", 40, 99))
        self.refused(TooMany, self.house.tell, 6, ("pay", 77, "groat", 40, 99))
        self.refused(NoDeed, self.house.tell, 6, ("strike", "ann", "groat"))
        self.refused(NoDay, self.house.tell, 10000, ("strike", "ann", "groat", 1))
        self.assertEqual(self.look(), before)

    def test_100_debts(self):
        house = House(KINDS, PEOPLE)
        for number in range(1, 101):
            self.assertEqual(house.tell(0, ("lend", "ann", "bob", "york", number, PAID)), number)
        self.assertEqual(house.owed("bob"), list(range(1, 101)))

    def test_99_payments(self):
        house = House([Kind("groat", 40, 36)], ["ann"])
        house.tell(0, ("strike", "ann", "groat", 1))
        house.tell(0, ("lend", "ann", "ann", "york", 0, Level(3)))
        for number in range(3, 101):
            self.assertEqual(house.tell(0, ("pay", 2, "groat", 40, 1)), number)
        self.assertEqual(house.over(2), 98 * 3)


if __name__ == "__main__":
    unittest.main()
