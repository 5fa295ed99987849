"""Point 17."""

import unittest

from callcoin.errors import NoKinds, NoName, NoWeight, NoWorth
from callcoin.kinds import Kind, own_kinds
from tests.cases import NO_NAMES, NO_WORTHS, CoinCase


class KindTest(CoinCase):
    def test_fields(self):
        for given in (("groat", 40, 36), ("a", 1, 1), ("abcdefgh", 1000, 1), ("penny", 1000, 1000), ("penny", 2, 2)):
            kind = Kind(*given)
            self.assertEqual((kind.name, kind.full, kind.least), given)

    def test_no_name(self):
        for name in NO_NAMES:
            self.refused(NoName, Kind, name, 40, 36)
            self.refused(NoName, Kind, name, 0, 36)
            self.refused(NoName, Kind, name, 40, 41)

    def test_no_weight(self):
        for full in (0, 1001, -1, -40, 10 ** 20, True, False):
            for least in (1, 0, 40, True):
                self.refused(NoWeight, Kind, "groat", full, least)
        for least in (0, 41, -1, 1001, 10 ** 20, True, False):
            self.refused(NoWeight, Kind, "groat", 40, least)
        for least in (0, 2, True):
            self.refused(NoWeight, Kind, "groat", 1, least)
        self.refused(NoWeight, Kind, "groat", 1000, 1001)

    def test_equality(self):
        given = (("groat", 40, 36), ("groats", 40, 36), ("groat", 41, 36), ("groat", 40, 35), ("groat", 36, 36),
                 ("groat", 40, 40), ("penny", 40, 36))
        for at, one in enumerate(given):
            for place, other in enumerate(given):
                self.assertEqual(Kind(*one) == Kind(*other), at == place)
                self.assertEqual(Kind(*one) != Kind(*other), at != place)

    def test_other_things(self):
        for thing in (None, 0, 40, "groat", ("groat", 40, 36), ["groat", 40, 36], True, False, object()):
            self.assertFalse(Kind("groat", 40, 36) == thing)
            self.assertFalse(thing == Kind("groat", 40, 36))
            self.assertTrue(Kind("groat", 40, 36) != thing)


class CountedTest(CoinCase):
    def test_counted(self):
        kind = Kind("groat", 40, 36)
        rows = ((36, 48, 48), (35, 48, 42), (40, 48, 48), (37, 48, 48), (1, 48, 1), (1, 39, 0), (1, 40, 1), (20, 48, 24),
                (35, 1000000, 875000), (36, 1000000, 1000000), (35, 0, 0), (40, 0, 0), (35, 1, 0), (36, 1, 1), (39, 1, 1))
        for weight, worth, counted in rows:
            with self.subTest((weight, worth)):
                self.assertEqual(kind.counted(weight, worth), counted)

    def test_without_what_is_over(self):
        for full, least in ((7, 7), (40, 36), (1000, 999), (3, 1), (1, 1)):
            kind = Kind("groat", full, least)
            for weight in range(1, full + 1):
                for worth in (0, 1, 2, 5, 999, 999999, 1000000):
                    counted = kind.counted(weight, worth)
                    if weight >= least:
                        self.assertEqual(counted, worth)
                    else:
                        self.assertTrue(counted * full <= worth * weight < (counted + 1) * full)

    def test_no_weight(self):
        kind = Kind("groat", 40, 36)
        for weight in (0, 41, -1, -36, 1000, 1001, True, False):
            self.refused(NoWeight, kind.counted, weight, 48)
            for worth in NO_WORTHS:
                self.refused(NoWeight, kind.counted, weight, worth)

    def test_no_worth(self):
        kind = Kind("groat", 40, 36)
        for worth in NO_WORTHS:
            for weight in (1, 35, 36, 40):
                self.refused(NoWorth, kind.counted, weight, worth)


class OwnKindsTest(CoinCase):
    def test_one_to_twelve_unlike_names(self):
        kinds = [Kind(name, 10, 9) for name in "abcdefghijklm"]
        for many in range(1, 13):
            self.assertEqual(own_kinds(kinds[:many]), tuple(kinds[:many]))
        self.refused(NoKinds, own_kinds, kinds)
        self.refused(NoKinds, own_kinds, [])
        self.refused(NoKinds, own_kinds, kinds[:3] + [Kind("b", 20, 1)])


if __name__ == "__main__":
    unittest.main()
