"""Point 24."""

import math
import random
import unittest
from fractions import Fraction

from callcoin.changers import Changers
from callcoin.judging import judged
from callcoin.ratios import lowest
from tests.cases import CoinCase

TOWNS = ("york", "bath", "hull", "deal")


def times(row):
    """By how much a row multiplies."""
    return Fraction(row[5], row[2])


def ways(table, good, most):
    """All ways of at most so many rows that begin at a good, as pairs (product, the good where it ends)."""
    found = [(Fraction(1), good)]
    last = found
    for turn in range(most):
        last = [(product * times(row), row[3:5]) for product, end in last for row in table.rows if row[:2] == end]
        found = found + last
    return found


def gains(table):
    """Whether a way of no more rows than there are goods comes back with more."""
    goods = table.goods()
    return any(end == good and product > 1 for good in goods for product, end in ways(table, good, len(goods)))


def table_of(rows):
    """A table of rows written as texts: a good is a letter, which stands for a kind in york."""
    parts = [row.split() for row in rows]
    return Changers([("york", one, int(given), "york", other, int(gained)) for given, one, gained, other in parts])


class JudgedCase(CoinCase):
    def fair(self, table):
        """Looks for prices by which no row gains, and tells them."""
        told = judged(table)
        self.assertEqual(told[0], "fair")
        self.assertEqual((type(told), len(told)), (tuple, 2))
        word, prices = told
        self.assertIs(type(prices), dict)
        self.assertEqual(tuple(prices), table.goods())
        for price in prices.values():
            self.assertEqual((type(price), len(price)), (tuple, 2))
            self.assertEqual(math.gcd(*price), 1)
            self.assertGreaterEqual(Fraction(*price), 1)
        for row in table.rows:
            self.assertLessEqual(Fraction(*prices[row[3:5]]) * row[5], Fraction(*prices[row[:2]]) * row[2])
        return prices

    def gain(self, table):
        """Walks the steps that come back with more."""
        told = judged(table)
        self.assertEqual(told[0], "gain")
        self.assertEqual((type(told), len(told)), (tuple, 4))
        word, good, many, steps = told
        self.assertIs(type(steps), list)
        self.assertTrue(1 <= len(steps) <= len(table.goods()))
        self.assertGreaterEqual(many, 1)
        self.assertIn(good, table.goods())
        stock = {good: many}
        for number, lots in steps:
            self.assertGreaterEqual(lots, 1)
            row = table.rows[number]
            self.assertEqual(stock, {row[:2]: row[2] * lots})
            stock = table.changed(stock, number, lots)
        self.assertEqual(list(stock), [good])
        self.assertGreater(stock[good], many)


class FairTest(JudgedCase):
    def test_one_row(self):
        one, other = ("york", "a"), ("york", "b")
        self.assertEqual(self.fair(table_of(["1 a 4 b"])), {one: (4, 1), other: (1, 1)})
        self.assertEqual(self.fair(table_of(["4 a 1 b"])), {one: (1, 1), other: (1, 1)})
        self.assertEqual(self.fair(table_of(["4 a 6 b"])), {one: (3, 2), other: (1, 1)})
        self.assertEqual(self.fair(table_of(["1 a 1000000 b"])), {one: (1000000, 1), other: (1, 1)})
        self.assertEqual(self.fair(table_of(["999999 a 1000000 b"])), {one: (1000000, 999999), other: (1, 1)})

    def test_rounds_that_multiply_by_one(self):
        prices = self.fair(table_of(["1 a 4 b", "4 b 1 a"]))
        self.assertEqual(list(prices.values()), [(4, 1), (1, 1)])
        prices = self.fair(table_of(["3 a 2 b", "5 b 3 c", "2 c 5 a"]))
        self.assertEqual(list(prices.values()), [(1, 1), (3, 2), (5, 2)])

    def test_the_best_of_several_ways(self):
        prices = self.fair(table_of(["1 a 2 b", "1 a 7 c", "1 b 4 c", "9 c 1 a"]))
        self.assertEqual(list(prices.values()), [(8, 1), (4, 1), (1, 1)])
        prices = self.fair(table_of(["1 a 2 b", "1 a 9 c", "1 b 4 c", "1 d 1 a", "2 d 3 a"]))
        self.assertEqual(list(prices.values()), [(9, 1), (4, 1), (1, 1), (27, 2)])

    def test_goods_that_nothing_leads_to_and_apart(self):
        prices = self.fair(table_of(["2 a 3 b", "5 c 1 d", "1 e 2 d"]))
        self.assertEqual(list(prices.values()), [(3, 2), (1, 1), (1, 1), (1, 1), (2, 1)])

    def test_no_round_with_numbers_at_the_end(self):
        rows = [("york", letter, 1, "york", other, 1000000) for letter, other in zip("abcdefghijklmno", "bcdefghijklmnop")]
        # The last rows are told first, and the first first.
        for table in (Changers(rows), Changers(rows[::-1])):
            prices = self.fair(table)
            self.assertEqual(prices[("york", "a")], (1000000 ** 15, 1))
            self.assertEqual(prices[("york", "p")], (1, 1))

    def test_the_longest_round_that_multiplies_by_one(self):
        letters = "abcdefghijklmnop"
        even = [("york", letters[at], 999999, "york", letters[at - 15], 1000000) for at in range(8)]
        even += [("york", letters[at], 1000000, "york", letters[at - 15], 999999) for at in range(8, 16)]
        self.assertEqual(self.fair(Changers(even))[("york", "a")], (1000000 ** 8, 999999 ** 8))

    def test_the_dict_is_the_askers_own(self):
        table = table_of(["1 a 4 b"])
        judged(table)[1].clear()
        self.assertEqual(len(judged(table)[1]), 2)


class GainTest(JudgedCase):
    def test_short_rounds(self):
        self.gain(table_of(["1 a 4 b", "3 b 1 a"]))
        self.gain(table_of(["3 b 1 a", "1 a 4 b"]))
        self.gain(table_of(["999999 a 1000000 b", "999999 b 1000000 a"]))
        self.gain(table_of(["1 a 1000000 b", "1 b 1000000 a"]))
        self.gain(table_of(["3 a 2 b", "5 b 3 c", "399999 c 1000000 a"]))

    def test_a_little_less_and_a_little_more(self):
        self.fair(table_of(["999999 a 1000000 b", "1000000 b 999998 a"]))
        self.fair(table_of(["999999 a 1000000 b", "1000000 b 999999 a"]))
        self.gain(table_of(["999998 a 999999 b", "1000000 b 999999 a"]))
        self.fair(table_of(["999999 a 999998 b", "999999 b 1000000 a"]))

    def test_a_round_behind_others(self):
        self.gain(table_of(["5 a 1 b", "9 b 1 c", "1 c 2 d", "1 d 1 c"]))
        self.gain(table_of(["1 c 2 d", "1 d 1 c", "5 a 1 b", "9 b 1 c"]))
        self.gain(table_of(["1 c 2 d", "1 d 1 c", "5 d 1 b", "9 b 1 e"]))
        self.gain(table_of(["1 a 1000000 b", "1 b 1000000 c", "1000000 c 1 a", "1000000 c 1 b", "1000000 b 1 a", "999999 c 1 b"]))

    def test_the_longest_round(self):
        letters = "abcdefghijklmnop"
        for gained in (999999, 1000000):
            rows = [("york", letters[at], 1000000, "york", letters[at - 15], 999999) for at in range(15)]
            rows.append(("york", "p", 999985, "york", "a", gained))
            product = math.prod(times(row) for row in rows)
            for table in (Changers(rows), Changers(rows[::-1]), Changers((rows * 2)[7:23])):
                if product > 1:
                    self.gain(table)
                else:
                    self.fair(table)
        self.assertGreater(product, 1)

    def test_40_rows_with_numbers_at_both_ends(self):
        letters = "abcdefghijklmnop"
        rows = [("york", letters[at], 1, "york", letters[at - 15], 1000000) for at in range(15)]
        rows += [("york", "p", 1000000, "york", "a", 1)] * 25
        self.gain(Changers(rows))
        self.gain(Changers(rows[::-1]))

    def test_a_round_of_rows_that_alone_gain_little(self):
        rows = [("york", letter, 999999, "bath", letter, 1000000) for letter in "abcdefgh"]
        rows += [("bath", letter, 1, "york", other, 1) for letter, other in zip("abcdefgh", "bcdefgha")]
        rows += [("bath", letter, 1000000, "york", letter, 1) for letter in "abcdefgh"]
        self.gain(Changers(rows))


class AllWaysTest(JudgedCase):
    def test_against_all_ways(self):
        chance = random.Random(24)
        seen = {"fair": 0, "gain": 0}
        for turn in range(400):
            kinds = "abcd"[:chance.choice((2, 3, 4))]
            numbers = chance.choice(((1, 2, 3), (1, 2, 4, 8), (999999, 1000000), (2, 3, 4, 5, 6)))
            rows = []
            for at in range(chance.randrange(1, 7)):
                one, other = chance.sample(kinds, 2)
                rows.append(("york", one, chance.choice(numbers), "york", other, chance.choice(numbers)))
            table = Changers(rows)
            word = judged(table)[0]
            seen[word] += 1
            self.assertEqual(word == "gain", gains(table), rows)
            if word == "gain":
                self.gain(table)
                continue
            prices = self.fair(table)
            for good in table.goods():
                best = max(product for product, end in ways(table, good, len(table.goods()) + 1))
                self.assertEqual(prices[good], (best.numerator, best.denominator))
        self.assertGreater(min(seen.values()), 80)

    def great_rows(self, chance, worths):
        """40 rows by which no good gains, each at what the goods are worth or a little below."""
        rows = []
        for at in range(40):
            one, other = chance.sample(sorted(worths), 2)
            less = chance.choice((0, 0, 1, 2, 1000))
            rows.append(one + (worths[other] * 1000,) + other + (max(1, worths[one] * 1000 - less),))
        return rows

    def test_great_tables(self):
        chance = random.Random(25)
        for turn in range(40):
            worths = {(town, kind): chance.randrange(1, 1001) for town in TOWNS for kind in "abcd"}
            rows = self.great_rows(chance, worths)
            self.fair(Changers(rows))
            one, other = chance.sample(sorted(worths), 2)
            rows[chance.randrange(20)] = one + (worths[other] * 1000,) + other + (worths[one] * 1000,)
            rows[chance.randrange(20, 40)] = other + (worths[one] * 999,) + one + (worths[other] * 1000,)
            self.gain(Changers(rows))

    def test_no_change_raises_the_worth_of_a_stock(self):
        table = table_of(["3 a 2 b", "5 b 3 c", "2 c 5 a", "7 a 2 c"])
        prices = {good: Fraction(*price) for good, price in self.fair(table).items()}
        stock = {good: 1000 for good in table.goods()}
        for number, lots in ((0, 5), (1, 100), (2, 3), (3, 60), (1, 1)):
            after = table.changed(stock, number, lots)
            worths = [sum(prices[good] * many for good, many in held.items()) for held in (stock, after)]
            self.assertLessEqual(worths[1], worths[0])
            stock = after

    def test_the_table_stays_as_it_is(self):
        rows = (("york", "a", 1, "york", "b", 4), ("york", "b", 3, "york", "a", 1))
        table = Changers(rows)
        judged(table)
        self.assertEqual(table.rows, rows)


class LowestTest(CoinCase):
    def test_lowest(self):
        for one in range(1, 40):
            for other in range(1, 40):
                fraction = Fraction(one, other)
                self.assertEqual(lowest(one, other), (fraction.numerator, fraction.denominator))
        self.assertEqual(lowest(6 * 10 ** 90, 4 * 10 ** 90), (3, 2))


if __name__ == "__main__":
    unittest.main()
