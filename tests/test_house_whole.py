"""Points 2, 29 and 30, over houses told at random, held against a slow reading of the document's words."""

import random
import unittest

from callcoin.errors import CoinError, Lacking, NoDebt
from callcoin.house import House
from callcoin.terms import Called, Greatest, Least, Level
from tests.cases import CoinCase
from tests.slowhouse import FULL, KINDS, PEOPLE, SlowHouse, Undone, chance_deed

TERMS = (Level(12), Called("made"), Called("paid"), Called(3), Least([Called("paid"), Called("made", "york")]),
         Greatest([Called(5, "bath"), Called("paid")]))
DAYS = 8


def told_house(chance, steps):
    """A house told at random: (house, tellings that were done, rows of (deed, what it was refused with))."""
    house = House(KINDS, PEOPLE)
    tellings, refused = [], []
    for step in range(steps):
        debts = [number for number, (day, deed) in enumerate(tellings, start=1) if deed[0] == "lend"]
        day, deed = chance.randrange(DAYS), chance_deed(chance, TERMS, debts)
        try:
            house.tell(day, deed)
            tellings.append((day, deed))
        except CoinError as refusal:
            refused.append((list(tellings), day, deed, refusal))
    return house, tellings, refused


def answers(house, day, known=None):
    """All that a house tells as at the end of a day, but for debts."""
    told = [house.held(who, day, known) for who in PEOPLE] + [house.owed(who, day, known) for who in PEOPLE]
    told += [ask(name, day, known) for ask in (house.there, house.clipped) for name in FULL]
    if day is not None:
        told += [house.worth(who, town, day, known) for who in PEOPLE for town in ("york", "bath")]
        told += [house.dead(town, day, known) for town in ("york", "bath")]
    return told


def slow_answers(slow, day):
    """The same, by the slow reading."""
    told = [slow.held(who) for who in PEOPLE] + [slow.owed(who) for who in PEOPLE]
    told += [numbers[name] for numbers in (slow.there, slow.clipped) for name in FULL]
    if day is not None:
        told += [slow.worth(who, town, day) for who in PEOPLE for town in ("york", "bath")]
        told += [slow.dead(town, day) for town in ("york", "bath")]
    return told


class WholeTest(CoinCase):
    def same_debts(self, house, slow, day, known):
        for debt in range(1, len(house.rows) + 1):
            if debt in slow.loans:
                balance = slow.balance(debt)
                self.assertEqual(house.left(debt, day, known), max(0, -balance))
                self.assertEqual(house.over(debt, day, known), max(0, balance))
            else:
                self.refused(NoDebt, house.left, debt, day, known)
                self.refused(NoDebt, house.over, debt, day, known)

    def test_against_the_slow_reading(self):
        for seed in range(8):
            house, tellings, refused = told_house(random.Random(seed), 45)
            self.assertGreater(len(tellings), 15)
            for known in list(range(0, len(tellings), 5)) + [len(tellings)]:
                for day in (None, 0, 1, 3, 4, DAYS - 1):
                    slow = SlowHouse(tellings[:known], DAYS if day is None else day)
                    self.assertEqual(answers(house, day, known), slow_answers(slow, day))
                    self.same_debts(house, slow, day, known)

    def test_refusals_against_the_slow_reading(self):
        seen = {}
        for seed in range(30):
            house, tellings, refused = told_house(random.Random(100 + seed), 40)
            for ahead, day, deed, refusal in refused:
                with self.assertRaises(Undone) as caught:
                    SlowHouse(ahead + [(day, deed)], DAYS)
                told = (type(refusal).__name__,)
                if isinstance(refusal, Lacking):
                    told += (refusal.name, refusal.many)
                self.assertEqual(caught.exception.args, told)
                seen[told[0]] = seen.get(told[0], 0) + 1
            SlowHouse(tellings, DAYS)
        self.assertEqual(sorted(seen), ["Lacking", "NoDebt", "Shut"])
        self.assertGreater(min(seen.values()), 10)

    def test_as_known_then(self):
        for seed in range(4):
            chance = random.Random(200 + seed)
            house, tellings, refused = told_house(chance, 40)
            again = House(KINDS, PEOPLE)
            then = [[answers(again, day) for day in (None, 2, 5)]]
            for day, deed in tellings:
                again.tell(day, deed)
                then.append([answers(again, day) for day in (None, 2, 5)])
            for known, told in enumerate(then):
                self.assertEqual([answers(house, day, known) for day in (None, 2, 5)], told)

    def test_told_late_as_if_told_in_time(self):
        for seed in range(10):
            chance = random.Random(300 + seed)
            house, tellings, refused = told_house(chance, 40)
            # By days, those of one day as told; a debt bears another number then.
            order = sorted(range(len(tellings)), key=lambda at: tellings[at][0])
            numbers = {at + 1: place for place, at in enumerate(order, start=1)}
            in_time = House(KINDS, PEOPLE)
            for at in order:
                day, deed = tellings[at]
                if deed[0] == "pay":
                    deed = ("pay", numbers[deed[1]]) + deed[2:]
                self.assertEqual(in_time.tell(day, deed), numbers[at + 1])
            for day in (None, 0, 2, 4, DAYS):
                for who in PEOPLE:
                    self.assertEqual(in_time.held(who, day), house.held(who, day))
                    self.assertEqual(in_time.owed(who, day), sorted(numbers[debt] for debt in house.owed(who, day)))
                for name in FULL:
                    self.assertEqual((in_time.there(name, day), in_time.clipped(name, day)), (house.there(name, day), house.clipped(name, day)))
                for debt in (number for number, (lent, deed) in enumerate(tellings, start=1) if deed[0] == "lend"):
                    if day is None or tellings[debt - 1][0] <= day:
                        self.assertEqual(in_time.left(numbers[debt], day), house.left(debt, day))
                        self.assertEqual(in_time.over(numbers[debt], day), house.over(debt, day))
                if day is not None:
                    self.assertEqual(in_time.dead("york", day), house.dead("york", day))

    def test_no_piece_and_no_weight_comes_or_goes(self):
        for seed in range(10):
            house, tellings, refused = told_house(random.Random(400 + seed), 50)
            for last in (0, 2, 4, DAYS):
                done = [deed for day, deed in tellings if day <= last]
                for name, full in FULL.items():
                    struck = sum(deed[3] for deed in done if deed[0] == "strike" and deed[2] == name)
                    brought = [deed[3:] for deed in done if deed[0] == "bring" and deed[2] == name]
                    clipped = sum((deed[3] - deed[4]) * deed[5] for deed in done if deed[0] == "clip" and deed[2] == name)
                    rows = [row for who in PEOPLE for row in house.held(who, last) if row[0] == name]
                    self.assertEqual(house.there(name, last), struck - sum(many for weight, many in brought))
                    self.assertEqual(house.there(name, last), sum(many for held, weight, many in rows))
                    self.assertEqual(house.clipped(name, last), clipped)
                    weight = struck * full - sum(weight * many for weight, many in brought) - clipped
                    self.assertEqual(weight, sum(weight * many for held, weight, many in rows))


if __name__ == "__main__":
    unittest.main()
