"""What several tests use."""

import unittest

from callcoin.errors import CoinError

NO_NAMES = ("", "York", "yorkshire", "yo rk", "york ", " york", "york\n", "y2", "york,", "a" * 9)
NO_DAYS = (-1, 10000, 10001, -9999, 10 ** 20, True, False)
NO_WORTHS = (-1, 1000001, -1000000, 10 ** 20, True, False)
NO_AMOUNTS = (-1, -240, 10 ** 15 + 1, 10 ** 16, 10 ** 5000, True, False)


class CoinCase(unittest.TestCase):
    def refused(self, error, call, *given, **named):
        """Looks for just this refusal, not for one under it or above it, and tells it."""
        with self.subTest((given, named)):
            with self.assertRaises(CoinError) as caught:
                call(*given, **named)
            self.assertIs(type(caught.exception), error)
            return caught.exception
