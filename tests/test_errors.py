"""The interface, row "errors"."""

import unittest

from callcoin import errors

REFUSALS = (
    "NoName", "NoMoney", "NoAmount", "NoText", "NoBridge", "NoDay", "NoWorth", "NoBook", "NoTerm", "NoWeight",
    "NoMany", "NoKinds", "Lacking", "NoRow", "NoStock", "NoDebt", "NoPeople", "NoDeed", "Shut", "TooMany",
)


def made(name):
    """A refusal of that name."""
    if name == "Lacking":
        return errors.Lacking("groat", 3)
    return getattr(errors, name)("words")


class ErrorsTest(unittest.TestCase):
    def test_there_are_twenty_and_no_other(self):
        self.assertEqual(len(set(REFUSALS)), 20)
        there = [name for name, value in vars(errors).items() if isinstance(value, type)]
        self.assertEqual(sorted(there), sorted(REFUSALS + ("CoinError",)))

    def test_coin_error_is_a_value_error(self):
        self.assertTrue(issubclass(errors.CoinError, ValueError))

    def test_each_is_under_coin_error_and_value_error(self):
        for name in REFUSALS:
            with self.subTest(name):
                self.assertTrue(issubclass(getattr(errors, name), errors.CoinError))
                self.assertTrue(issubclass(getattr(errors, name), ValueError))

    def test_none_is_under_another(self):
        for name in REFUSALS:
            for other in REFUSALS:
                if name != other:
                    with self.subTest((name, other)):
                        self.assertFalse(issubclass(getattr(errors, name), getattr(errors, other)))

    def test_each_is_raised_and_caught_by_its_name_and_by_those_above(self):
        for name in REFUSALS:
            for caught in (getattr(errors, name), errors.CoinError, ValueError):
                with self.subTest((name, caught)):
                    with self.assertRaises(caught):
                        raise made(name)

    def test_lacking_has_its_fields(self):
        lacking = errors.Lacking("groat", 3)
        self.assertEqual((lacking.name, lacking.many), ("groat", 3))
        self.assertIsInstance(str(lacking), str)

    def test_lacking_takes_a_many_of_any_size(self):
        lacking = errors.Lacking("penny", 10 ** 5000)
        self.assertEqual(lacking.many, 10 ** 5000)
        self.assertIsInstance(str(lacking), str)


if __name__ == "__main__":
    unittest.main()
