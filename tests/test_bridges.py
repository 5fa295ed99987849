"""Point 8, and point 3 as far as bridges go."""

import unittest

from callcoin.bridges import Bridge
from callcoin.errors import NoAmount, NoBridge
from callcoin.moneys import Money
from tests.cases import NO_AMOUNTS, CoinCase

STERLING = Money([("pound", 20), ("shilling", 12), ("penny", 1)])
TOURNOIS = Money([("livre", 20), ("sou", 12), ("denier", 1)])
MOST = 10 ** 15
SIDES = ((1, 1), (1, 1000000), (1000000, 1), (1000000, 1000000), (3, 2), (2, 3), (4, 6), (7, 9), (999983, 999979))
AMOUNTS = (0, 1, 2, 3, 5, 6, 7, 100, 999999, 1000000, 1000001, MOST - 1, MOST)
NO_SIDES = (0, 1000001, -1, -1000000, 10 ** 20, True, False)


def bridge_of(given, gained):
    """A bridge with these sides."""
    return Bridge(STERLING, TOURNOIS, given, gained)


class FieldsTest(CoinCase):
    def test_fields(self):
        for given, gained in SIDES:
            with self.subTest((given, gained)):
                bridge = bridge_of(given, gained)
                self.assertIs(bridge.one, STERLING)
                self.assertIs(bridge.other, TOURNOIS)
                self.assertEqual((bridge.given, bridge.gained), (given, gained))

    def test_a_money_may_be_bridged_to_itself(self):
        bridge = Bridge(STERLING, STERLING, 2, 3)
        self.assertIs(bridge.one, bridge.other)
        self.assertEqual(bridge.there(4), (6, 0))

    def test_no_bridge_at_either_place(self):
        for side in NO_SIDES:
            for good in (1, 5, 1000000):
                self.refused(NoBridge, Bridge, STERLING, TOURNOIS, side, good)
                self.refused(NoBridge, Bridge, STERLING, TOURNOIS, good, side)
            self.refused(NoBridge, Bridge, STERLING, TOURNOIS, side, side)


class ThereTest(CoinCase):
    def test_there(self):
        rows = ((3, 2, 0, (0, 0)), (3, 2, 1, (0, 2)), (3, 2, 2, (1, 1)), (3, 2, 3, (2, 0)), (3, 2, 10, (6, 2)),
                (1, 5, 7, (35, 0)), (5, 1, 7, (1, 2)), (4, 6, 1, (1, 2)), (1, 1, MOST, (MOST, 0)),
                (1, 1000000, MOST, (10 ** 21, 0)), (1000000, 1, MOST, (10 ** 9, 0)), (1000000, 1, 999999, (0, 999999)))
        for given, gained, amount, pair in rows:
            with self.subTest((given, gained, amount)):
                told = bridge_of(given, gained).there(amount)
                self.assertEqual(told, pair)
                self.assertIs(type(told), tuple)

    def test_amount_times_gained_is_whole_times_given_and_the_rest(self):
        for given, gained in SIDES:
            for amount in AMOUNTS:
                with self.subTest((given, gained, amount)):
                    whole, rest = bridge_of(given, gained).there(amount)
                    self.assertEqual(amount * gained, whole * given + rest)
                    self.assertTrue(0 <= rest < given)

    def test_no_amount(self):
        for given, gained in SIDES:
            for amount in NO_AMOUNTS:
                self.refused(NoAmount, bridge_of(given, gained).there, amount)


class BackTest(CoinCase):
    def test_back_of_what_there_told(self):
        for given, gained in SIDES:
            bridge = bridge_of(given, gained)
            for amount in AMOUNTS:
                with self.subTest((given, gained, amount)):
                    self.assertEqual(bridge.back(*bridge.there(amount)), amount)

    def test_it_tells_an_amount_just_where_one_leads_there(self):
        for given, gained in ((1, 1), (1, 3), (3, 1), (3, 2), (2, 3), (4, 6), (6, 4), (5, 5)):
            bridge = bridge_of(given, gained)
            leads = {bridge.there(amount): amount for amount in range(60)}
            for whole in range(-3, 12):
                for rest in range(-3, 9):
                    if (whole, rest) in leads:
                        self.assertEqual(bridge.back(whole, rest), leads[whole, rest])
                    else:
                        self.refused(NoAmount, bridge.back, whole, rest)

    def test_one_more_or_less(self):
        bridge = bridge_of(7, 9)
        for amount in (1, 5, 1000000, MOST):
            whole, rest = bridge.there(amount)
            for other in ((whole + 1, rest), (whole - 1, rest), (whole, rest + 1), (whole, rest - 1)):
                self.refused(NoAmount, bridge.back, *other)

    def test_below_0(self):
        bridge = bridge_of(3, 1)
        for pair in ((-1, 0), (0, -1), (-1, 3), (1, -3), (-1, -1), (-5, 2), (2, -1)):
            self.refused(NoAmount, bridge.back, *pair)

    def test_a_rest_as_great_as_given_or_greater(self):
        bridge = bridge_of(3, 1)
        self.assertEqual(bridge.back(1, 2), 5)
        for pair in ((1, 3), (1, 4), (0, 3), (0, 5), (-1, 6), (0, 3 * MOST)):
            self.refused(NoAmount, bridge.back, *pair)
        self.refused(NoAmount, bridge_of(1, 1).back, 4, 1)

    def test_an_amount_beyond_the_bound(self):
        for given, gained in SIDES:
            bridge = bridge_of(given, gained)
            for amount in (MOST + 1, MOST + given, MOST * 2, 10 ** 5000):
                self.refused(NoAmount, bridge.back, *divmod(amount * gained, given))

    def test_great_numbers(self):
        bridge = bridge_of(3, 2)
        for pair in ((10 ** 5000, 0), (0, 10 ** 5000), (10 ** 5000, 10 ** 5000), (-10 ** 5000, 1), (1, -10 ** 5000)):
            self.refused(NoAmount, bridge.back, *pair)

    def test_truths_are_no_numbers(self):
        for pair in ((True, 0), (False, 0), (1, True), (1, False), (True, False), (False, False), (True, 1)):
            self.refused(NoAmount, bridge_of(2, 1).back, *pair)
            self.refused(NoAmount, bridge_of(1, 1).back, *pair)


class AllThereTest(CoinCase):
    def test_no_amount_at_all(self):
        for amounts in ([], ()):
            self.assertEqual(bridge_of(3, 2).all_there(amounts), ([], 0))

    def test_one_amount(self):
        for given, gained in SIDES:
            bridge = bridge_of(given, gained)
            for amount in AMOUNTS:
                with self.subTest((given, gained, amount)):
                    whole, rest = bridge.there(amount)
                    self.assertEqual(bridge.all_there([amount]), ([whole], rest))

    def test_the_rest_goes_from_one_to_the_next(self):
        self.assertEqual(bridge_of(3, 2).all_there([1, 1, 1]), ([0, 1, 1], 0))
        self.assertEqual(bridge_of(3, 2).all_there([1, 1]), ([0, 1], 1))
        self.assertEqual(bridge_of(3, 1).all_there([2, 0, 2, 0]), ([0, 0, 1, 0], 1))
        self.assertEqual(bridge_of(1000000, 1).all_there([999999, 1, 999999]), ([0, 1, 0], 999999))
        self.assertEqual(bridge_of(3, 1).all_there([MOST, MOST, MOST]),
                         ([333333333333333, 333333333333333, 333333333333334], 0))

    def test_all_wholes_and_the_last_rest_make_up_all(self):
        for given, gained in SIDES:
            wholes, rest = bridge_of(given, gained).all_there(AMOUNTS)
            self.assertEqual(len(wholes), len(AMOUNTS))
            self.assertEqual(sum(AMOUNTS) * gained, sum(wholes) * given + rest)
            self.assertTrue(0 <= rest < given)

    def test_lists_and_tuples(self):
        bridge = bridge_of(7, 9)
        told = bridge.all_there(list(AMOUNTS))
        self.assertEqual(told, bridge.all_there(AMOUNTS))
        for pair in (told, bridge.all_there(AMOUNTS)):
            self.assertIs(type(pair), tuple)
            self.assertIs(type(pair[0]), list)

    def test_no_amount_at_each_place(self):
        for amount in NO_AMOUNTS:
            for at in range(4):
                amounts = [0, 1, MOST, 5]
                amounts[at] = amount
                self.refused(NoAmount, bridge_of(3, 2).all_there, amounts)
                self.refused(NoAmount, bridge_of(3, 2).all_there, tuple(amounts))
            self.refused(NoAmount, bridge_of(3, 2).all_there, [amount])

    def test_nothing_of_one_row_is_left_for_the_next_question(self):
        bridge = bridge_of(3, 2)
        for turn in range(3):
            self.assertEqual(bridge.all_there([1]), ([0], 2))
            self.refused(NoAmount, bridge.all_there, [1, -1])
            self.assertEqual(bridge.there(1), (0, 2))
            self.assertEqual(bridge.all_there([]), ([], 0))
            self.assertEqual(bridge.back(0, 2), 1)

    def test_two_bridges_by_turns(self):
        one, other = bridge_of(3, 2), bridge_of(5, 4)
        for turn in range(3):
            self.assertEqual(one.all_there([1, 1]), ([0, 1], 1))
            self.assertEqual(other.all_there([1, 1]), ([0, 1], 3))
            self.assertEqual(one.there(2), (1, 1))
            self.assertEqual(other.there(2), (1, 3))

    def test_what_is_handed_in_stays_and_what_is_told_is_the_askers_own(self):
        bridge = bridge_of(3, 2)
        amounts = [1, 1, 1]
        wholes, rest = bridge.all_there(amounts)
        self.assertEqual(amounts, [1, 1, 1])
        wholes.append(5)
        self.assertEqual(amounts, [1, 1, 1])
        self.assertEqual(bridge.all_there(amounts), ([0, 1, 1], 0))


if __name__ == "__main__":
    unittest.main()
