"""Points 26 and 27."""

import random
import unittest

from callcoin.calls import Calls
from callcoin.debts import Debts
from callcoin.errors import NoAmount, NoDay, NoDebt, NoKinds, NoMany, NoName, NoWeight, TooMany
from callcoin.kinds import Kind
from callcoin.terms import Called, Greatest, Least, Level
from tests.cases import NO_AMOUNTS, NO_DAYS, NO_NAMES, CoinCase
from tests.rules import TOWNS, WHENS, chance_term

GROAT, PENNY = Kind("groat", 40, 36), Kind("penny", 10, 9)
KINDS = [GROAT, PENNY]
PAID, MADE = Called("paid"), Called("made")
NO_MANIES = (0, -1, 1000001, 10 ** 20, True, False)
MOST = 10 ** 15


def calls_of(rows):
    """A book of calls, of rows (town, kind, day, worth)."""
    calls = Calls()
    for row in rows:
        calls.tell(*row)
    return calls


def letters(number):
    """A name for a number below 26."""
    return "abcdefghijklmnopqrstuvwxyz"[number]


class DebtsCase(CoinCase):
    def setUp(self):
        self.calls = calls_of([("york", "groat", 0, 48), ("york", "groat", 10, 40), ("york", "penny", 0, 12), ("bath", "groat", 5, 60)])
        self.debts = Debts(self.calls, KINDS)

    def look(self, debt):
        """All that the book tells of a debt."""
        days = (None, 0, 5, 9, 10, 11, 20, 9999)
        asked = (self.debts.counted, self.debts.left, self.debts.over)
        return [ask(debt, day) for ask in asked for day in days] + [self.debts.met(debt), self.debts.payments(debt)]


class BookTest(DebtsCase):
    def test_kinds(self):
        many = [Kind(letters(at), 10, 5) for at in range(12)]
        for kinds in (many, tuple(many), many[:1]):
            debts = Debts(Calls(), kinds)
            debts.lend("york", 0, 5, Level(3))
            self.assertEqual(debts.pay(1, 0, "a", 10), 3)
        for kinds in ([], (), many + [GROAT], many * 2, [GROAT, GROAT], [GROAT, PENNY, Kind("groat", 5, 5)]):
            self.refused(NoKinds, Debts, Calls(), kinds)

    def test_the_list_of_kinds_may_be_changed_behind_the_call(self):
        kinds = [GROAT, PENNY]
        debts = Debts(self.calls, kinds)
        self.assertEqual(kinds, [GROAT, PENNY])
        kinds.clear()
        debts.lend("york", 0, 5, PAID)
        self.assertEqual(debts.pay(1, 0, "penny", 10), 12)

    def test_debts_are_numbered_one_by_one(self):
        self.assertEqual([self.debts.lend("york", day, 5, PAID) for day in (9, 3, 3)], [1, 2, 3])
        self.refused(NoDay, self.debts.lend, "york", -1, 5, PAID)
        self.assertEqual(self.debts.lend("hull", 0, 0, MADE), 4)
        self.debts.pay(2, 3, "groat", 40)
        self.assertEqual(self.debts.lend("hull", 9999, MOST, MADE), 5)

    def test_pay_tells_what_pieces_count(self):
        self.debts.lend("york", 3, 100, PAID)
        self.debts.lend("york", 3, 100, MADE)
        self.debts.lend("bath", 3, 100, Least([MADE, Called("paid", "york")]))
        self.debts.lend("bath", 3, 100, Greatest([Called(7), Called("made", "york"), Level(50)]))
        rows = ((1, 3, "groat", 40, 1, 48), (1, 9, "groat", 36, 2, 96), (1, 10, "groat", 40, 1, 40), (1, 9999, "groat", 35, 3, 105),
                (1, 3, "groat", 35, 2, 84), (1, 3, "groat", 1, 7, 7), (1, 3, "penny", 8, 5, 45), (1, 3, "penny", 9, 5, 60),
                (2, 10, "groat", 40, 1, 48), (2, 9999, "groat", 20, 1000000, 24000000), (3, 10, "groat", 40, 5, 0),
                (4, 3, "groat", 40, 2, 120), (4, 3, "groat", 30, 2, 90), (4, 3, "penny", 10, 2, 100))
        for debt, day, name, weight, many, count in rows:
            with self.subTest((debt, day, name, weight, many)):
                before = self.debts.counted(debt)
                self.assertEqual(self.debts.pay(debt, day, name, weight, many), count)
                self.assertEqual(self.debts.counted(debt), before + count)

    def test_light_pieces_are_rounded_one_by_one(self):
        calls = calls_of([("york", "penny", 0, 3)])
        debts = Debts(calls, [Kind("penny", 10, 10)])
        debts.lend("york", 0, 10, PAID)
        self.assertEqual(debts.pay(1, 0, "penny", 9, 10), 20)

    def test_many_by_its_place_by_its_name_left_out(self):
        self.debts.lend("york", 0, 100, PAID)
        self.assertEqual(self.debts.pay(1, 0, "penny", 10), 12)
        self.assertEqual(self.debts.pay(1, 0, "penny", 10, 3), 36)
        self.assertEqual(self.debts.pay(1, 0, "penny", 10, many=2), 24)
        self.assertEqual(self.debts.payments(1), [(0, "penny", 10, 1), (0, "penny", 10, 3), (0, "penny", 10, 2)])

    def test_two_books_by_one_book_of_calls(self):
        other = Debts(self.calls, [PENNY])
        self.assertEqual(self.debts.lend("york", 0, 100, PAID), 1)
        self.assertEqual(other.lend("york", 0, 100, PAID), 1)
        self.debts.pay(1, 0, "penny", 10)
        self.assertEqual((self.debts.counted(1), other.counted(1)), (12, 0))
        other.pay(1, 2, "penny", 10, 2)
        self.calls.tell("york", "penny", 0, 13)
        self.assertEqual((self.debts.counted(1), other.counted(1)), (13, 26))
        self.refused(NoName, other.pay, 1, 2, "groat", 10, 2)


class LendRefusalsTest(DebtsCase):
    def test_each_part_and_the_order(self):
        for name in NO_NAMES:
            for day in (0, -1):
                for amount in (0, -1):
                    self.refused(NoName, self.debts.lend, name, day, amount, PAID)
        for day in NO_DAYS:
            for amount in (0, -1):
                self.refused(NoDay, self.debts.lend, "york", day, amount, PAID)
        for amount in NO_AMOUNTS:
            self.refused(NoAmount, self.debts.lend, "york", 0, amount, PAID)
        self.refused(NoDebt, self.debts.counted, 1)
        self.assertEqual(self.debts.lend("york", 0, 0, PAID), 1)

    def test_100_debts_and_101(self):
        for number in range(1, 101):
            self.assertEqual(self.debts.lend("york", 0, number, PAID), number)
        for turn in range(2):
            self.refused(TooMany, self.debts.lend, "york", 0, 5, PAID)
        self.refused(NoName, self.debts.lend, "York", 0, 5, PAID)
        self.refused(NoDay, self.debts.lend, "york", True, 5, PAID)
        self.refused(NoAmount, self.debts.lend, "york", 0, -5, PAID)
        self.refused(NoDebt, self.debts.left, 101)
        self.assertEqual(self.debts.left(100), 100)
        self.assertEqual(self.debts.pay(100, 0, "groat", 40), 48)


class PayRefusalsTest(DebtsCase):
    def test_each_part_and_the_order(self):
        self.debts.lend("york", 7, 100, PAID)
        self.debts.lend("york", 0, 100, PAID)
        self.debts.pay(1, 8, "groat", 40)
        before = self.look(1) + self.look(2)
        parts = (
            (NoDebt, (0, -1, 3, 10 ** 20, True, False)),
            (NoDay, NO_DAYS + (6, 0)),
            (NoName, NO_NAMES + ("noble", "york")),
            (NoWeight, (0, -1, 41, 10 ** 20, True, False)),
            (NoMany, NO_MANIES),
        )
        good = (1, 7, "groat", 40, 1)
        for at, (error, values) in enumerate(parts):
            for value in values:
                given = good[:at] + (value,) + good[at + 1:]
                self.refused(error, self.debts.pay, *given)
                for behind in range(at + 1, 5):
                    worse = given[:behind] + (parts[behind][1][0],) + given[behind + 1:]
                    self.refused(error, self.debts.pay, *worse)
                worst = given[:at + 1] + tuple(parts[behind][1][-1] for behind in range(at + 1, 5))
                self.refused(error, self.debts.pay, *worst)
        self.refused(NoMany, self.debts.pay, 1, 7, "groat", 40, many=0)
        self.assertEqual(self.look(1) + self.look(2), before)

    def test_weights_of_the_very_kind(self):
        self.debts.lend("york", 0, 100, PAID)
        self.assertEqual(self.debts.pay(1, 0, "penny", 10), 12)
        self.assertEqual(self.debts.pay(1, 0, "penny", 1), 1)
        self.refused(NoWeight, self.debts.pay, 1, 0, "penny", 11)
        self.assertEqual(self.debts.pay(1, 0, "groat", 11), 13)

    def test_days_of_the_debt(self):
        self.debts.lend("york", 7, 100, PAID)
        self.debts.lend("york", 9, 100, PAID)
        self.refused(NoDay, self.debts.pay, 1, 6, "groat", 40)
        self.assertEqual(self.debts.pay(1, 7, "groat", 40), 48)
        self.assertEqual(self.debts.pay(1, 9999, "groat", 40), 40)
        self.refused(NoDay, self.debts.pay, 2, 8, "groat", 40)
        self.refused(NoDay, self.debts.pay, 2, 8, "noble", 0, 0)
        self.assertEqual(self.debts.pay(2, 9, "groat", 40, 1000000), 48000000)

    def test_300_payments_in_all_and_301(self):
        self.debts.lend("york", 7, 100, PAID)
        self.debts.lend("york", 0, 100, PAID)
        for number in range(300):
            self.debts.pay(1 + number % 2, 7 + number % 5, "penny", 10)
        before = self.look(1) + self.look(2)
        self.assertEqual(self.debts.counted(1), 1800)
        for debt in (1, 2):
            self.refused(TooMany, self.debts.pay, debt, 7, "penny", 10)
        self.refused(NoDebt, self.debts.pay, 3, 7, "penny", 10)
        self.refused(NoDay, self.debts.pay, 1, 6, "penny", 10)
        self.refused(NoName, self.debts.pay, 1, 7, "noble", 10)
        self.refused(NoWeight, self.debts.pay, 1, 7, "penny", 11)
        self.refused(NoMany, self.debts.pay, 1, 7, "penny", 10, 0)
        self.assertEqual(self.look(1) + self.look(2), before)
        self.assertEqual(self.debts.lend("york", 0, 5, PAID), 3)
        self.refused(TooMany, self.debts.pay, 3, 0, "penny", 10)


class QuestionsTest(DebtsCase):
    def test_at_the_end_of_a_day(self):
        self.debts.lend("york", 5, 100, PAID)
        self.debts.pay(1, 12, "groat", 40)
        self.debts.pay(1, 6, "groat", 40)
        self.debts.pay(1, 12, "penny", 10, 2)
        rows = ((None, 112, 0, 12), (0, 0, 100, 0), (4, 0, 100, 0), (5, 0, 100, 0), (6, 48, 52, 0), (11, 48, 52, 0),
                (12, 112, 0, 12), (13, 112, 0, 12), (9999, 112, 0, 12))
        for day, counted, left, over in rows:
            with self.subTest(day):
                self.assertEqual((self.debts.counted(1, day), self.debts.left(1, day), self.debts.over(1, day)), (counted, left, over))
                self.assertEqual(self.debts.counted(1, day=day), counted)
                self.assertEqual(self.debts.left(1, day=day), left)
                self.assertEqual(self.debts.over(1, day=day), over)
        self.assertEqual((self.debts.counted(1), self.debts.left(1), self.debts.over(1)), (112, 0, 12))
        self.assertEqual(self.debts.met(1), 12)

    def test_just_met(self):
        self.debts.lend("york", 0, 96, PAID)
        self.debts.pay(1, 3, "groat", 40)
        self.assertEqual((self.debts.left(1), self.debts.over(1), self.debts.met(1)), (48, 0, None))
        self.debts.pay(1, 4, "groat", 40)
        self.assertEqual((self.debts.left(1), self.debts.over(1), self.debts.met(1)), (0, 0, 4))
        self.debts.pay(1, 4, "groat", 1)
        self.assertEqual((self.debts.left(1), self.debts.over(1), self.debts.met(1)), (0, 1, 4))
        self.debts.lend("york", 0, 97, PAID)
        self.debts.pay(2, 3, "groat", 40, 2)
        self.assertEqual((self.debts.left(2), self.debts.over(2), self.debts.met(2)), (1, 0, None))

    def test_calls_told_late_and_put_right(self):
        self.debts.lend("york", 5, 100, PAID)
        self.assertEqual(self.debts.pay(1, 6, "groat", 40, 2), 96)
        self.assertEqual((self.debts.left(1), self.debts.met(1)), (4, None))
        self.calls.tell("york", "groat", 6, 50)
        self.assertEqual((self.debts.counted(1), self.debts.left(1), self.debts.met(1)), (100, 0, 6))
        self.calls.tell("york", "groat", 6, 51)
        self.assertEqual((self.debts.counted(1), self.debts.over(1), self.debts.met(1)), (102, 2, 6))
        self.calls.tell("york", "groat", 6, 0)
        self.assertEqual((self.debts.counted(1), self.debts.left(1), self.debts.met(1)), (0, 100, None))
        self.calls.tell("york", "groat", 7, 90)
        self.assertEqual(self.debts.counted(1), 0)

    def test_met(self):
        self.debts.lend("york", 5, 0, PAID)
        self.assertEqual(self.debts.met(1), 5)
        self.debts.pay(1, 8, "groat", 40)
        self.assertEqual((self.debts.met(1), self.debts.over(1), self.debts.over(1, 7)), (5, 48, 0))
        self.debts.lend("york", 5, 90, PAID)
        self.assertIsNone(self.debts.met(2))
        self.debts.pay(2, 20, "groat", 40, 9)
        self.assertEqual(self.debts.met(2), 20)
        self.debts.pay(2, 8, "groat", 40)
        self.assertEqual(self.debts.met(2), 20)
        # Told late, this one meets the debt on an earlier day.
        self.debts.pay(2, 9, "groat", 40)
        self.assertEqual(self.debts.met(2), 9)
        self.debts.pay(2, 5, "groat", 40, 2)
        self.assertEqual(self.debts.met(2), 5)
        self.debts.lend("york", 5, 1, PAID)
        self.debts.pay(3, 5, "groat", 40, 1000)
        self.assertEqual(self.debts.met(3), 5)
        self.debts.lend("york", 0, MOST, PAID)
        for turn in range(30):
            self.debts.pay(4, 9999, "groat", 40, 1000000)
        self.assertIsNone(self.debts.met(4))
        self.assertEqual(self.debts.left(4), MOST - 30 * 40000000)

    def test_payments(self):
        self.debts.lend("york", 2, 10, PAID)
        self.debts.lend("york", 2, 10, PAID)
        for debt, day, name, weight in ((1, 9, "penny", 3), (1, 2, "penny", 4), (2, 3, "groat", 9), (1, 9, "groat", 40), (1, 2, "groat", 2),
                                        (1, 9, "groat", 1), (1, 5, "penny", 9)):
            self.debts.pay(debt, day, name, weight, many=day)
        told = [(2, "penny", 4, 2), (2, "groat", 2, 2), (5, "penny", 9, 5), (9, "penny", 3, 9), (9, "groat", 40, 9), (9, "groat", 1, 9)]
        self.assertEqual(self.debts.payments(1), told)
        self.assertEqual(self.debts.payments(2), [(3, "groat", 9, 3)])
        self.assertIs(type(self.debts.payments(1)), list)
        self.debts.payments(1).clear()
        self.assertEqual(self.debts.payments(1), told)
        self.assertEqual([type(row) for row in self.debts.payments(1)], [tuple] * 6)
        self.debts.lend("york", 2, 10, PAID)
        self.assertEqual(self.debts.payments(3), [])

    def test_refusals(self):
        self.debts.lend("york", 5, 100, PAID)
        for ask in (self.debts.counted, self.debts.left, self.debts.over):
            for debt in (0, -1, 2, 10 ** 20, True, False):
                for day in (None, 0, -1, 10000, True):
                    self.refused(NoDebt, ask, debt, day)
                self.refused(NoDebt, ask, debt)
            for day in NO_DAYS:
                self.refused(NoDay, ask, 1, day)
                self.refused(NoDay, ask, 1, day=day)
        for debt in (0, -1, 2, 10 ** 20, True, False):
            self.refused(NoDebt, self.debts.met, debt)
            self.refused(NoDebt, self.debts.payments, debt)

    def test_against_the_words(self):
        chance = random.Random(27)
        for turn in range(25):
            calls = Calls()
            debts = Debts(calls, KINDS)
            terms = [chance_term(chance, [(when, town) for when in WHENS for town in TOWNS], 3) for at in range(3)]
            loans = [(chance.choice(("york", "bath")), chance.randrange(5), chance.choice((0, 30, 100)), term) for term in terms]
            paid = []
            for loan in loans:
                debts.lend(*loan)
            for step in range(15):
                if chance.random() < 0.5:
                    calls.tell(chance.choice(("york", "bath")), chance.choice(("groat", "penny")), chance.randrange(8), chance.choice((0, 12, 30)))
                else:
                    debt, kind = chance.randrange(3), chance.choice(KINDS)
                    row = (chance.randrange(loans[debt][1], 9), kind.name, chance.randrange(1, kind.full + 1), chance.randrange(1, 4))
                    debts.pay(debt + 1, *row)
                    paid.append((debt, row))
            for debt, (town, made, amount, term) in enumerate(loans):
                rows = sorted([row for number, row in paid if number == debt], key=lambda row: row[0])
                self.assertEqual(debts.payments(debt + 1), rows)
                by_day = []
                for last in range(12):
                    counts = [many * {"groat": GROAT, "penny": PENNY}[name].counted(weight, term.worth(calls, name, (town, made, day)))
                              for day, name, weight, many in rows if day <= last]
                    by_day.append(sum(counts))
                    self.assertEqual(debts.counted(debt + 1, last), by_day[-1])
                    self.assertEqual(debts.left(debt + 1, last), max(0, amount - by_day[-1]))
                    self.assertEqual(debts.over(debt + 1, last), max(0, by_day[-1] - amount))
                met = [day for day in range(made, 12) if by_day[day] >= amount]
                self.assertEqual(debts.met(debt + 1), met[0] if met else None)


if __name__ == "__main__":
    unittest.main()
