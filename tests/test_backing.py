"""Point 22."""

import itertools
import random
import unittest

from callcoin.backing import with_change
from callcoin.errors import NoAmount, NoWorth, TooMany
from tests.cases import NO_AMOUNTS, NO_WORTHS, CoinCase

MOST = 10 ** 15


def all_choices(worths):
    """All choices of places."""
    return [choice for many in range(len(worths) + 1) for choice in itertools.combinations(range(len(worths)), many)]


def all_pairs(mine, theirs):
    """Tuples (gap, places together, places of mine, mine, theirs) of all pairs of choices."""
    return [(sum([mine[at] for at in one]) - sum([theirs[at] for at in other]), len(one) + len(other), len(one), one, other)
            for one in all_choices(mine) for other in all_choices(theirs)]


def slow_with_change(mine, theirs, due, pairs=None):
    """What is told by the words of point 22."""
    pairs = all_pairs(mine, theirs) if pairs is None else pairs
    fit = [pair[1:] for pair in pairs if pair[0] == due]
    if fit:
        return ("paid",) + min(fit)[2:]
    above = [pair[0] for pair in pairs if pair[0] > due]
    return ("none", max(pair[0] for pair in pairs if pair[0] < due), min(above) if above else None)


class WithChangeTest(CoinCase):
    def test_rows(self):
        rows = (
            ([], [], 0, ("paid", (), ())),
            ([], [], 1, ("none", 0, None)),
            ([], [], MOST, ("none", 0, None)),
            ([], [5], 0, ("paid", (), ())),
            ([], [5], 1, ("none", 0, None)),
            ([5], [], 0, ("paid", (), ())),
            ([5], [], 1, ("none", 0, 5)),
            ([5], [], 4, ("none", 0, 5)),
            ([5], [], 5, ("paid", (0,), ())),
            ([5], [], 6, ("none", 5, None)),
            ([0, 0], [0], 0, ("paid", (), ())),
            ([0, 0], [0], 1, ("none", 0, None)),
            ([0, 5, 0], [0], 5, ("paid", (1,), ())),
            ([5], [3], 2, ("paid", (0,), (0,))),
            ([5], [3], 1, ("none", 0, 2)),
            ([5], [3], 3, ("none", 2, 5)),
            ([5], [5], 5, ("paid", (0,), ())),
            ([5], [5], 0, ("paid", (), ())),
            ([12, 12, 12], [4, 4], 8, ("paid", (0,), (0,))),
            ([12, 12, 12], [4, 4], 16, ("paid", (0, 1), (0, 1))),
            ([7, 2, 9], [9, 7], 2, ("paid", (1,), ())),
            # Two places together: one of mine and one back, ahead of two of mine.
            ([2, 3, 8], [3], 5, ("paid", (2,), (0,))),
            ([8, 2, 3], [3], 5, ("paid", (0,), (0,))),
            # Two of mine and one back are as many as one of mine and two back.
            ([6, 4, 9], [5, 1, 3], 5, ("paid", (0,), (1,))),
            ([7, 20], [2, 3, 12, 8], 15, ("paid", (1,), (0, 1))),
            # The least tuple of mine comes ahead of the least of theirs.
            ([10, 12], [2, 4], 8, ("paid", (0,), (0,))),
            ([10, 12], [4, 2], 8, ("paid", (0,), (1,))),
            ([12, 10], [2, 4], 8, ("paid", (0,), (1,))),
            ([1000000] * 8, [], 8000000, ("paid", tuple(range(8)), ())),
            ([1000000] * 8, [], 8000001, ("none", 8000000, None)),
            ([1000000] * 8, [1] * 8, 7999992, ("paid", tuple(range(8)), tuple(range(8)))),
            ([1000000] * 8, [1] * 8, 7999991, ("none", 7000000, 7999992)),
            ([1, 2], [1000000] * 8, 3, ("paid", (0, 1), ())),
            ([1, 2], [1000000] * 8, 4, ("none", 3, None)),
        )
        for mine, theirs, due, told in rows:
            with self.subTest((mine, theirs, due)):
                self.assertEqual(slow_with_change(mine, theirs, due), told)
                self.assertEqual(with_change(mine, theirs, due), told)
                self.assertEqual(with_change(tuple(mine), tuple(theirs), due), told)
                self.assertEqual(with_change(mine, tuple(theirs), due), told)
                self.assertEqual([type(part) for part in with_change(mine, theirs, due)], [type(part) for part in told])

    def test_against_all_pairs_of_choices(self):
        chance = random.Random(22)
        for turn in range(150):
            coins = chance.choice(((0, 1, 2, 3), (1, 5, 10, 12, 240), (4, 6, 9), (0, 999999, 1000000), range(60)))
            mine = [chance.choice(coins) for at in range(chance.randrange(6))]
            theirs = mine[:] if turn % 5 == 0 else [chance.choice(coins) for at in range(chance.randrange(6))]
            pairs = all_pairs(mine, theirs)
            gaps = {pair[0] for pair in pairs}
            dues = {0, 1, sum(mine) + 1, MOST}
            for gap in chance.sample(sorted(gaps), min(len(gaps), 6)):
                dues |= {gap - 1, gap, gap + 1}
            for due in sorted(due for due in dues if due >= 0):
                self.assertEqual(with_change(mine, theirs, due), slow_with_change(mine, theirs, due, pairs), (mine, theirs, due))

    def test_8_on_either_side_against_all_pairs(self):
        chance = random.Random(23)
        for most in (3, 40, 1000000):
            mine = [chance.randrange(most + 1) for at in range(8)]
            theirs = [chance.randrange(most + 1) for at in range(8)]
            pairs = all_pairs(mine, theirs)
            for due in (0, 1, 7, sum(mine), sum(mine) - theirs[0], chance.choice(pairs)[0]):
                if due >= 0:
                    self.assertEqual(with_change(mine, theirs, due), slow_with_change(mine, theirs, due, pairs))

    def test_what_is_handed_in_stays_as_it_is(self):
        mine, theirs = [3, 1, 2], [2, 0]
        with_change(mine, theirs, 4)
        self.refused(NoAmount, with_change, mine, theirs, -1)
        self.assertEqual((mine, theirs), ([3, 1, 2], [2, 0]))


class RefusalsTest(CoinCase):
    def test_no_worth_at_each_place(self):
        for worth in NO_WORTHS:
            for at in range(3):
                bad = [1, 0, 1000000]
                bad[at] = worth
                for due in (0, 5, -1, True):
                    self.refused(NoWorth, with_change, bad, [], due)
                    self.refused(NoWorth, with_change, [], bad, due)
                    self.refused(NoWorth, with_change, tuple(bad), tuple(bad), due)
                    self.refused(NoWorth, with_change, [1] * 9, bad, due)
                    self.refused(NoWorth, with_change, bad, [1] * 9, due)
            self.refused(NoWorth, with_change, [1] * 8 + [worth], [], 5)
            self.refused(NoWorth, with_change, [], [1] * 8 + [worth], -1)

    def test_no_amount(self):
        for due in NO_AMOUNTS:
            self.refused(NoAmount, with_change, [], [], due)
            self.refused(NoAmount, with_change, [1, 2], [1], due)
            self.refused(NoAmount, with_change, [1] * 9, [1], due)
            self.refused(NoAmount, with_change, [1], [1] * 9, due)

    def test_8_worths_and_9(self):
        self.assertEqual(with_change([1] * 8, [1] * 8, 8), ("paid", tuple(range(8)), ()))
        self.assertEqual(with_change([1] * 8, [1] * 8, 9), ("none", 8, None))
        for many in (9, 10, 50, 1000):
            for due in (0, 1, many, MOST):
                self.refused(TooMany, with_change, [1] * many, [], due)
                self.refused(TooMany, with_change, [], (0,) * many, due)
                self.refused(TooMany, with_change, [1] * many, [1] * many, due)
                self.refused(TooMany, with_change, [1] * 8, [1] * many, due)
                self.refused(TooMany, with_change, [1] * many, [1] * 8, due)


if __name__ == "__main__":
    unittest.main()
