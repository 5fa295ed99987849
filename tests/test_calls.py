"""Points 9, 10 and 11, and point 3 as far as books of calls go."""

import random
import unittest

from callcoin.calls import Calls
from callcoin.errors import NoBook, NoDay, NoName, NoWorth, TooMany
from tests.cases import NO_DAYS, NO_NAMES, NO_WORTHS, CoinCase


def book_of(*rows):
    """A book to which these rows are told."""
    calls = Calls()
    for row in rows:
        calls.tell(*row)
    return calls


def slow_worth(rows, town, kind, day):
    """The worth by the words of point 10, day by day backwards."""
    for at in range(day, -1, -1):
        for row in reversed(rows):
            if row[:3] == (town, kind, at):
                return row[3]
    return 0


class TellTest(CoinCase):
    def test_the_number_of_each_telling(self):
        calls = Calls()
        self.assertEqual(len(calls), 0)
        for number in range(1, 6):
            self.assertEqual(calls.tell("york", "groat", 10 - number, 5), number)
            self.assertEqual(len(calls), number)

    def test_the_same_told_again_is_a_telling_too(self):
        calls = Calls()
        self.assertEqual([calls.tell("york", "groat", 1, 5) for turn in range(3)], [1, 2, 3])
        self.assertEqual(calls.tellings(), [("york", "groat", 1, 5)] * 3)

    def test_bounds(self):
        calls = Calls()
        for day in (0, 9999):
            for worth in (0, 1000000):
                calls.tell("a", "abcdefgh", day, worth)
        self.assertEqual(len(calls), 4)

    def test_each_refusal_alone(self):
        calls = book_of(("york", "groat", 1, 5))
        for name in NO_NAMES:
            self.refused(NoName, calls.tell, name, "groat", 1, 5)
            self.refused(NoName, calls.tell, "york", name, 1, 5)
        for day in NO_DAYS:
            self.refused(NoDay, calls.tell, "york", "groat", day, 5)
        for worth in NO_WORTHS:
            self.refused(NoWorth, calls.tell, "york", "groat", 1, worth)
        self.assertEqual(calls.tellings(), [("york", "groat", 1, 5)])

    def test_the_order_of_refusals(self):
        calls = Calls()
        self.refused(NoName, calls.tell, "York", "Groat", -1, -1)
        self.refused(NoName, calls.tell, "York", "groat", -1, 5)
        self.refused(NoName, calls.tell, "York", "groat", 1, -1)
        self.refused(NoName, calls.tell, "york", "Groat", -1, 5)
        self.refused(NoName, calls.tell, "york", "Groat", 1, -1)
        self.refused(NoDay, calls.tell, "york", "groat", -1, -1)
        self.refused(NoDay, calls.tell, "york", "groat", True, False)
        self.assertEqual(len(calls), 0)

    def test_300_tellings_and_one_more(self):
        calls = Calls()
        for number in range(1, 301):
            self.assertEqual(calls.tell("york", "groat", number, number), number)
        told = calls.tellings()
        self.refused(TooMany, calls.tell, "york", "groat", 1, 5)
        self.refused(TooMany, calls.tell, "bath", "penny", 0, 0)
        self.refused(NoName, calls.tell, "York", "groat", 1, 5)
        self.refused(NoName, calls.tell, "york", "Groat", 1, 5)
        self.refused(NoDay, calls.tell, "york", "groat", 10000, 5)
        self.refused(NoWorth, calls.tell, "york", "groat", 1, -1)
        self.assertEqual(len(calls), 300)
        self.assertEqual(calls.tellings(), told)
        self.assertEqual(calls.worth("york", "groat", 9999), 300)
        self.assertEqual(calls.worth("york", "groat", 1), 1)


class WorthTest(CoinCase):
    def test_an_empty_book(self):
        for day in (0, 1, 9999):
            self.assertEqual(Calls().worth("york", "groat", day), 0)

    def test_the_day_told_one_ahead_and_one_behind(self):
        calls = book_of(("york", "groat", 10, 5))
        self.assertEqual([calls.worth("york", "groat", day) for day in (0, 9, 10, 11, 9999)], [0, 0, 5, 5, 5])

    def test_days_in_any_order(self):
        rows = (("york", "groat", 10, 5), ("york", "groat", 20, 7), ("york", "groat", 30, 2))
        for at in ((0, 1, 2), (0, 2, 1), (1, 0, 2), (1, 2, 0), (2, 0, 1), (2, 1, 0)):
            calls = book_of(*[rows[place] for place in at])
            worths = [calls.worth("york", "groat", day) for day in (9, 10, 19, 20, 29, 30, 31)]
            self.assertEqual(worths, [0, 5, 5, 7, 7, 2, 2])

    def test_days_0_and_9999(self):
        calls = book_of(("york", "groat", 9999, 3), ("york", "groat", 0, 4))
        self.assertEqual([calls.worth("york", "groat", day) for day in (0, 1, 9998, 9999)], [4, 4, 4, 3])

    def test_what_is_told_later_for_the_same_day_takes_the_place(self):
        calls = book_of(("york", "groat", 5, 9), ("york", "groat", 8, 1), ("york", "groat", 5, 2))
        self.assertEqual([calls.worth("york", "groat", day) for day in (4, 5, 7, 8)], [0, 2, 2, 1])
        calls.tell("york", "groat", 5, 9)
        self.assertEqual(calls.worth("york", "groat", 6), 9)

    def test_a_later_telling_for_an_earlier_day_leaves_the_later_day(self):
        calls = book_of(("york", "groat", 8, 1), ("york", "groat", 5, 2))
        self.assertEqual(calls.worth("york", "groat", 9), 1)

    def test_a_worth_of_0(self):
        calls = book_of(("york", "groat", 5, 9), ("york", "groat", 8, 0), ("york", "groat", 10, 3))
        self.assertEqual([calls.worth("york", "groat", day) for day in (7, 8, 9, 10)], [9, 0, 0, 3])
        calls.tell("york", "groat", 5, 0)
        self.assertEqual(calls.worth("york", "groat", 7), 0)

    def test_other_towns_and_kinds_stay(self):
        calls = book_of(("york", "groat", 5, 9), ("yor", "kgroat", 5, 1), ("yorkg", "roat", 5, 2),
                        ("groat", "york", 5, 3), ("york", "groats", 5, 4), ("yorks", "groat", 5, 6))
        asked = (("york", "groat"), ("yor", "kgroat"), ("yorkg", "roat"), ("groat", "york"), ("york", "groats"),
                 ("yorks", "groat"), ("york", "york"), ("groat", "groat"), ("york", "groa"), ("yor", "groat"))
        self.assertEqual([calls.worth(town, kind, 5) for town, kind in asked], [9, 1, 2, 3, 4, 6, 0, 0, 0, 0])

    def test_known(self):
        calls = book_of(("york", "groat", 5, 9), ("york", "groat", 3, 7), ("york", "groat", 5, 1), ("bath", "groat", 1, 2))
        self.assertEqual([calls.worth("york", "groat", 6, known) for known in range(5)], [0, 9, 9, 1, 1])
        self.assertEqual([calls.worth("york", "groat", 4, known=known) for known in range(5)], [0, 0, 7, 7, 7])
        self.assertEqual(calls.worth("york", "groat", 6, None), 1)
        self.assertEqual(calls.worth("york", "groat", 6, known=None), 1)

    def test_another_known(self):
        for calls in (Calls(), book_of(("york", "groat", 5, 9)), book_of(*[("york", "groat", 5, 9)] * 4)):
            self.assertEqual(calls.worth("york", "groat", 4, len(calls)), 0)
            for known in (len(calls) + 1, -1, -4, 300, 10 ** 20, True, False):
                self.refused(NoBook, calls.worth, "york", "groat", 6, known)
                self.refused(NoBook, calls.worth, "york", "groat", 6, known=known)

    def test_refusals_and_their_order(self):
        calls = book_of(("york", "groat", 5, 9))
        for name in NO_NAMES:
            self.refused(NoName, calls.worth, name, "groat", 5)
            self.refused(NoName, calls.worth, "york", name, 5)
        for day in NO_DAYS:
            self.refused(NoDay, calls.worth, "york", "groat", day)
            self.refused(NoDay, calls.worth, "york", "groat", day, 7)
            self.refused(NoDay, calls.worth, "bath", "groat", day, known=-1)
        self.refused(NoName, calls.worth, "York", "groat", -1, 7)
        self.refused(NoName, calls.worth, "york", "Groat", -1, 7)
        self.refused(NoName, calls.worth, "york", "Groat", 1, 7)

    def test_against_the_words(self):
        chance = random.Random(10)
        for turn in range(30):
            rows = [(chance.choice(("a", "b")), chance.choice(("c", "d")), chance.randrange(8), chance.randrange(4))
                    for row in range(chance.randrange(15))]
            calls = book_of(*rows)
            for known in range(len(rows) + 1):
                for day in range(9):
                    self.assertEqual(calls.worth("a", "c", day, known), slow_worth(rows[:known], "a", "c", day))


class TurnsTest(CoinCase):
    def test_turns(self):
        calls = book_of(("york", "groat", 30, 2), ("york", "groat", 10, 5), ("york", "groat", 20, 5),
                        ("bath", "groat", 15, 1), ("york", "groat", 25, 0))
        self.assertEqual(calls.turns("york", "groat"), [(10, 5), (25, 0), (30, 2)])
        self.assertEqual(calls.turns("bath", "groat"), [(15, 1)])
        self.assertEqual(calls.turns("bath", "penny"), [])

    def test_day_0(self):
        self.assertEqual(book_of(("york", "groat", 0, 5)).turns("york", "groat"), [(0, 5)])
        self.assertEqual(book_of(("york", "groat", 0, 0)).turns("york", "groat"), [])
        self.assertEqual(book_of(("york", "groat", 3, 0)).turns("york", "groat"), [])
        calls = book_of(("york", "groat", 0, 0), ("york", "groat", 9999, 1), ("york", "groat", 1, 0))
        self.assertEqual(calls.turns("york", "groat"), [(9999, 1)])

    def test_what_takes_the_place(self):
        calls = book_of(("york", "groat", 5, 9), ("york", "groat", 7, 9), ("york", "groat", 5, 2))
        self.assertEqual(calls.turns("york", "groat"), [(5, 2), (7, 9)])
        calls.tell("york", "groat", 5, 9)
        self.assertEqual(calls.turns("york", "groat"), [(5, 9)])

    def test_known(self):
        calls = book_of(("york", "groat", 5, 9), ("york", "groat", 3, 7), ("york", "groat", 5, 7))
        told = [[], [(5, 9)], [(3, 7), (5, 9)], [(3, 7)]]
        self.assertEqual([calls.turns("york", "groat", known) for known in range(4)], told)
        self.assertEqual([calls.turns("york", "groat", known=known) for known in range(4)], told)
        self.assertEqual(calls.turns("york", "groat", None), told[3])

    def test_refusals_and_their_order(self):
        calls = book_of(("york", "groat", 5, 9))
        for name in NO_NAMES:
            self.refused(NoName, calls.turns, name, "groat")
            self.refused(NoName, calls.turns, "york", name)
            self.refused(NoName, calls.turns, name, "groat", 2)
            self.refused(NoName, calls.turns, "york", name, known=-1)
        for known in (2, -1, 300, True, False):
            self.refused(NoBook, calls.turns, "york", "groat", known)
            self.refused(NoBook, calls.turns, "bath", "groat", known=known)

    def test_against_the_worths_of_all_days(self):
        chance = random.Random(11)
        for turn in range(30):
            rows = [(chance.choice(("a", "b")), "c", chance.randrange(8), chance.randrange(3)) for row in range(10)]
            calls = book_of(*rows)
            worths = [0] + [slow_worth(rows, "a", "c", day) for day in range(10)]
            turns = [(day, worths[day + 1]) for day in range(10) if worths[day + 1] != worths[day]]
            self.assertEqual(calls.turns("a", "c"), turns)

    def test_the_list_is_the_askers_own(self):
        calls = book_of(("york", "groat", 5, 9))
        calls.turns("york", "groat").append((6, 1))
        self.assertEqual(calls.turns("york", "groat"), [(5, 9)])
        self.assertIs(type(calls.turns("york", "groat")[0]), tuple)


class TellingsTest(CoinCase):
    def setUp(self):
        self.rows = [("york", "groat", 5, 9), ("bath", "penny", 3, 0), ("york", "groat", 5, 9), ("york", "groat", 0, 1)]
        self.calls = book_of(*self.rows)

    def test_as_told(self):
        self.assertEqual(self.calls.tellings(), self.rows)
        self.assertEqual([type(row) for row in self.calls.tellings()], [tuple] * 4)
        self.assertEqual(Calls().tellings(), [])
        self.assertEqual(len(self.calls), 4)

    def test_known(self):
        for known in range(5):
            self.assertEqual(self.calls.tellings(known), self.rows[:known])
            self.assertEqual(self.calls.tellings(known=known), self.rows[:known])
        self.assertEqual(self.calls.tellings(None), self.rows)
        self.assertEqual(Calls().tellings(0), [])

    def test_another_known(self):
        for known in (5, 6, -1, -4, True, False):
            self.refused(NoBook, self.calls.tellings, known)
            self.refused(NoBook, self.calls.tellings, known=known)
        for known in (1, -1, True, False):
            self.refused(NoBook, Calls().tellings, known)

    def test_a_new_list_each_time(self):
        for known in (None, 4, 2):
            told = self.calls.tellings(known)
            told.clear()
            told.append("more")
            self.assertEqual(self.calls.tellings(), self.rows)
            self.assertEqual(len(self.calls), 4)
            self.assertEqual(self.calls.worth("york", "groat", 5), 9)

    def test_a_list_that_was_told_stays(self):
        told = self.calls.tellings()
        self.calls.tell("york", "groat", 7, 7)
        self.assertEqual(told, self.rows)

    def test_two_books_are_apart(self):
        other = Calls()
        other.tell("york", "groat", 5, 3)
        self.assertEqual(self.calls.tellings(), self.rows)
        self.assertEqual((len(self.calls), len(other)), (4, 1))


if __name__ == "__main__":
    unittest.main()
