"""Points 20 and 21."""

import itertools
import random
import unittest

from callcoin.choices import choices
from callcoin.errors import NoAmount, NoWorth, TooMany
from callcoin.paying import least_over, sums_below
from tests.cases import NO_AMOUNTS, NO_WORTHS, CoinCase

ASKED = (sums_below, least_over)
POWERS = [1 << power for power in range(12)]
MOST = 10 ** 15


def all_choices(worths):
    """Pairs (total, places) of all choices."""
    places = range(len(worths))
    return [(sum([worths[at] for at in choice]), choice)
            for many in range(len(worths) + 1) for choice in itertools.combinations(places, many)]


def slow_least_over(worths, due):
    """What is told by the words of point 21."""
    over = [(total, len(choice), choice) for total, choice in all_choices(worths) if total >= due]
    if not over:
        return ("short", sum(worths))
    total, many, choice = min(over)
    return ("paid", choice, total)


class ChoicesTest(CoinCase):
    def test_the_shortest_first_then_by_places(self):
        self.assertEqual(choices(0), [()])
        self.assertEqual(choices(3), [(), (0,), (1,), (2,), (0, 1), (0, 2), (1, 2), (0, 1, 2)])
        for many in range(7):
            told = [choice for size in range(many + 1) for choice in itertools.combinations(range(many), size)]
            self.assertEqual(choices(many), told)


class SumsBelowTest(CoinCase):
    def test_sums(self):
        rows = (([], 0, []), ([], 1, [0]), ([], MOST, [0]), ([5], 0, []), ([5], 1, [0]), ([5], 5, [0]), ([5], 6, [0, 5]),
                ([0], 1, [0]), ([0, 0, 0], 1, [0]), ([0, 0], 0, []), ([3, 3, 3], 7, [0, 3, 6]), ([3, 3, 3], 6, [0, 3]),
                ([7, 1, 3], 100, [0, 1, 3, 4, 7, 8, 10, 11]), ([7, 1, 3], 8, [0, 1, 3, 4, 7]), ([1, 2, 3], 7, [0, 1, 2, 3, 4, 5, 6]),
                ([1000000] * 12, MOST, [1000000 * many for many in range(13)]))
        for worths, due, sums in rows:
            with self.subTest((worths, due)):
                self.assertEqual(sums_below(worths, due), sums)
                self.assertEqual(sums_below(tuple(worths), due), sums)
                self.assertIs(type(sums_below(tuple(worths), due)), list)

    def test_against_all_choices(self):
        chance = random.Random(20)
        for turn in range(200):
            worths = [chance.choice((0, 1, 2, 3, 5, 8, 12, 1000000)) for at in range(chance.randrange(8))]
            for due in (0, 1, 6, sum(worths), sum(worths) + 1, chance.randrange(40)):
                sums = sorted({total for total, choice in all_choices(worths) if total < due})
                self.assertEqual(sums_below(worths, due), sums)

    def test_the_list_is_the_askers_own(self):
        sums_below([1, 2], 5).clear()
        self.assertEqual(sums_below([1, 2], 5), [0, 1, 2, 3])


class LeastOverTest(CoinCase):
    def test_least_over(self):
        rows = (([], 0, ("paid", (), 0)), ([], 1, ("short", 0)), ([5], 0, ("paid", (), 0)), ([5], 1, ("paid", (0,), 5)),
                ([5], 5, ("paid", (0,), 5)), ([5], 6, ("short", 5)), ([0, 0], 0, ("paid", (), 0)), ([0, 0], 1, ("short", 0)),
                ([0, 5, 0], 5, ("paid", (1,), 5)), ([5, 5, 5], 6, ("paid", (0, 1), 10)), ([7, 5, 4, 3], 8, ("paid", (1, 3), 8)),
                ([1, 1, 2], 2, ("paid", (2,), 2)), ([2, 1, 3, 2, 1], 4, ("paid", (0, 3), 4)), ([4, 3, 1, 2], 5, ("paid", (0, 2), 5)),
                ([9, 6, 6], 10, ("paid", (1, 2), 12)), ([1, 2, 3, 4], 10, ("paid", (0, 1, 2, 3), 10)),
                ([1, 2, 3, 4], 11, ("short", 10)), ([3, 0, 3], 6, ("paid", (0, 2), 6)), ([1000000] * 12, MOST, ("short", 12000000)),
                ([1000000] * 12, 12000000, ("paid", tuple(range(12)), 12000000)))
        for worths, due, told in rows:
            with self.subTest((worths, due)):
                self.assertEqual(least_over(worths, due), told)
                self.assertEqual(least_over(tuple(worths), due), told)
                self.assertIs(type(least_over(worths, due)), tuple)
                self.assertIs(type(least_over(worths, due)[1]), type(told[1]))

    def test_against_all_choices(self):
        chance = random.Random(21)
        for turn in range(300):
            worths = [chance.choice((0, 1, 1, 2, 3, 5, 8, 12, 30)) for at in range(chance.randrange(9))]
            for due in (0, 1, 6, sum(worths) - 1, sum(worths), sum(worths) + 1, chance.randrange(40)):
                if due >= 0:
                    self.assertEqual(least_over(worths, due), slow_least_over(worths, due))

    def test_12_worths_against_all_choices(self):
        chance = random.Random(22)
        for turn in range(6):
            worths = [chance.randrange(20) for at in range(12)]
            due = chance.randrange(sum(worths) + 2)
            self.assertEqual(least_over(worths, due), slow_least_over(worths, due))


class RefusalsTest(CoinCase):
    def test_no_worth_at_each_place(self):
        for asked in ASKED:
            for worth in NO_WORTHS:
                for at in range(3):
                    worths = [1, 0, 1000000]
                    worths[at] = worth
                    self.refused(NoWorth, asked, worths, 5)
                    self.refused(NoWorth, asked, tuple(worths), 0)
                    self.refused(NoWorth, asked, worths, -1)
                self.refused(NoWorth, asked, [1] * 12 + [worth], 5)
                self.refused(NoWorth, asked, [1] * 12 + [worth], True)
                self.refused(NoWorth, asked, [worth] + POWERS, 4000)
                self.refused(NoWorth, asked, [worth], 0)

    def test_no_amount(self):
        for asked in ASKED:
            for due in NO_AMOUNTS:
                self.refused(NoAmount, asked, [], due)
                self.refused(NoAmount, asked, [1, 2], due)
                self.refused(NoAmount, asked, [1] * 13, due)
                self.refused(NoAmount, asked, POWERS, due)

    def test_12_worths_and_13(self):
        self.assertEqual(sums_below([1] * 12, 20), list(range(13)))
        self.assertEqual(least_over([1] * 12, 12), ("paid", tuple(range(12)), 12))
        self.assertEqual(least_over([1] * 12, 13), ("short", 12))
        for asked in ASKED:
            for many in (13, 14, 100, 10000):
                for due in (0, 1, 5, many, many + 1, MOST):
                    self.refused(TooMany, asked, [1] * many, due)
                    self.refused(TooMany, asked, (0,) * many, due)

    def test_1000_totals_and_1001(self):
        self.assertEqual(sums_below(POWERS, 1000), list(range(1000)))
        self.assertEqual(least_over(POWERS, 1000), ("paid", (3, 5, 6, 7, 8, 9), 1000))
        for asked in ASKED:
            for due in (1001, 1002, 4095, 4096, MOST):
                self.refused(TooMany, asked, POWERS, due)

    def test_1001_totals_where_it_would_be_short(self):
        few = POWERS[:9] + [489]
        self.assertEqual(sum(few), 1000)
        self.assertEqual(len(sums_below(few, 1000)), 1000)
        self.assertEqual(least_over(few, 1000), ("paid", tuple(range(10)), 1000))
        for asked in ASKED:
            self.refused(TooMany, asked, few, 1001)
            self.refused(TooMany, asked, few, MOST)
        short = POWERS[:9] + [488]
        self.assertEqual(sums_below(short, 1001), list(range(1000)))
        self.assertEqual(least_over(short, 1001), ("short", 999))

    def test_what_is_handed_in_stays_as_it_is(self):
        for asked in ASKED:
            worths = [3, 1, 2]
            asked(worths, 4)
            self.assertEqual(worths, [3, 1, 2])
            self.refused(NoAmount, asked, worths, -1)
            self.assertEqual(worths, [3, 1, 2])


if __name__ == "__main__":
    unittest.main()
