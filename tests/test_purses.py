"""Points 18 and 19, and point 3 as far as purses go."""

import random
import unittest

from callcoin.errors import Lacking, NoKinds, NoMany, NoName, NoWeight, NoWorth, TooMany
from callcoin.kinds import Kind
from callcoin.purses import Purse
from tests.cases import NO_NAMES, NO_WORTHS, CoinCase

GROAT = Kind("groat", 40, 36)
PENNY = Kind("penny", 10, 9)
MITE = Kind("mite", 1, 1)
KINDS = (GROAT, PENNY, MITE)
NO_PURSE_NAMES = NO_NAMES + ("noble", "groats", "groa", "gro at")
NO_MANYS = (0, 1000001, -1, -1000000, 10 ** 20, True, False)


def purse_of(*rows, kinds=KINDS):
    """A purse into which these rows are put."""
    purse = Purse(kinds)
    for row in rows:
        purse.put(*row)
    return purse


def filled():
    """A purse with some pieces, whose order of putting is none of those in which they are told."""
    return purse_of(("mite", 1, 3), ("penny", 5, 2), ("groat", 36, 1), ("penny", 10, 7), ("groat", 40, 4), ("penny", 9, 1))


HELD = [("groat", 40, 4), ("groat", 36, 1), ("penny", 10, 7), ("penny", 9, 1), ("penny", 5, 2), ("mite", 1, 3)]


class PurseCase(CoinCase):
    def unchanged(self, error, purse, method, *given, **named):
        """Looks for a refusal that changes nothing, and tells it."""
        held = purse.held()
        refusal = self.refused(error, getattr(purse, method), *given, **named)
        self.assertEqual(purse.held(), held)
        return refusal


class KindsTest(PurseCase):
    def test_one_to_twelve_kinds(self):
        kinds = [Kind(name, 10, 9) for name in "abcdefghijklmnop"]
        for many in range(1, 13):
            for given in (kinds[:many], tuple(kinds[:many])):
                purse = Purse(given)
                self.assertEqual((len(purse), purse.held(), purse.weight()), (0, [], 0))
                purse.put(kinds[many - 1].name, 10)
        for many in (0, 13, 14, 16):
            self.refused(NoKinds, Purse, kinds[:many])
            self.refused(NoKinds, Purse, tuple(kinds[:many]))

    def test_two_names_alike(self):
        for kinds in ([GROAT, GROAT], [GROAT, PENNY, Kind("groat", 10, 9)], [PENNY, GROAT, Kind("groat", 40, 36), MITE]):
            self.refused(NoKinds, Purse, kinds)

    def test_kinds_alike_but_for_the_name(self):
        purse = purse_of(("a", 10), kinds=[Kind("a", 10, 9), Kind("b", 10, 9)])
        self.assertEqual(purse.held(), [("a", 10, 1)])

    def test_the_list_may_be_changed_behind_the_call(self):
        kinds = [GROAT, PENNY]
        purse = Purse(kinds)
        kinds.append(MITE)
        kinds[0] = MITE
        self.unchanged(NoName, purse, "put", "mite", 1)
        purse.put("groat", 40)
        purse.pour(Purse([GROAT, PENNY]))
        self.assertEqual(purse.held(), [("groat", 40, 1)])
        self.assertEqual(kinds, [MITE, PENNY, MITE])


class PutTest(PurseCase):
    def test_put(self):
        purse = Purse(KINDS)
        self.assertIsNone(purse.put("groat", 40))
        self.assertEqual(purse.held(), [("groat", 40, 1)])
        self.assertIsNone(purse.put("groat", 40, 4))
        self.assertIsNone(purse.put("groat", 40, many=2))
        self.assertEqual(purse.held(), [("groat", 40, 7)])

    def test_bounds(self):
        purse = Purse(KINDS)
        for name, weight in (("groat", 1), ("groat", 40), ("penny", 10), ("mite", 1)):
            for many in (1, 1000000):
                purse.put(name, weight, many)
        self.assertEqual([row[2] for row in purse.held()], [1000001] * 4)

    def test_there_is_no_bound_to_what_a_purse_holds(self):
        purse = Purse(KINDS)
        for turn in range(2000):
            purse.put("groat", 40, 1000000)
        self.assertEqual(purse.held(), [("groat", 40, 2 * 10 ** 9)])
        self.assertEqual(purse.weight(), 8 * 10 ** 10)
        purse.take("groat", 40, 1000000)
        self.assertEqual(purse.worth({"groat": 1000000}), (2 * 10 ** 9 - 10 ** 6) * 10 ** 6)

    def test_each_refusal_alone(self):
        purse = filled()
        for name in NO_PURSE_NAMES:
            self.unchanged(NoName, purse, "put", name, 1)
        for name, full in (("groat", 40), ("penny", 10), ("mite", 1)):
            for weight in (0, full + 1, -1, 1001, True, False):
                self.unchanged(NoWeight, purse, "put", name, weight)
        for many in NO_MANYS:
            self.unchanged(NoMany, purse, "put", "groat", 40, many)
            self.unchanged(NoMany, purse, "put", "groat", 40, many=many)

    def test_the_order_of_refusals(self):
        purse = filled()
        for name in NO_PURSE_NAMES:
            self.unchanged(NoName, purse, "put", name, 0)
            self.unchanged(NoName, purse, "put", name, 1, 0)
            self.unchanged(NoName, purse, "put", name, 0, 0)
        self.unchanged(NoWeight, purse, "put", "groat", 41, 0)
        self.unchanged(NoWeight, purse, "put", "groat", True, many=True)


class TakeTest(PurseCase):
    def test_take(self):
        purse = filled()
        self.assertIsNone(purse.take("groat", 40))
        self.assertEqual(purse.held()[0], ("groat", 40, 3))
        self.assertIsNone(purse.take("groat", 40, 2))
        self.assertEqual(purse.held()[0], ("groat", 40, 1))
        self.assertIsNone(purse.take("groat", 40, many=1))
        self.assertEqual(purse.held(), HELD[1:])
        self.assertEqual(len(purse), 5)

    def test_the_last_pieces(self):
        purse = filled()
        for name, weight, many in HELD:
            purse.take(name, weight, many)
        self.assertEqual((purse.held(), len(purse), purse.weight()), ([], 0, 0))
        self.assertEqual(purse, Purse(KINDS))

    def test_a_million_at_once(self):
        purse = purse_of(("groat", 40, 1000000), ("groat", 40, 1))
        purse.take("groat", 40, 1000000)
        self.assertEqual(purse.held(), [("groat", 40, 1)])

    def test_lacking(self):
        for name, weight, many, more in (("groat", 40, 5, 1), ("groat", 40, 1000000, 999996), ("groat", 36, 2, 1),
                                         ("groat", 39, 1, 1), ("groat", 39, 7, 7), ("penny", 1, 1, 1), ("mite", 1, 10, 7)):
            refusal = self.unchanged(Lacking, filled(), "take", name, weight, many)
            self.assertEqual((refusal.name, refusal.many), (name, more))
        refusal = self.unchanged(Lacking, Purse(KINDS), "take", "penny", 10)
        self.assertEqual((refusal.name, refusal.many), ("penny", 1))

    def test_each_refusal_alone(self):
        purse = filled()
        for name in NO_PURSE_NAMES:
            self.unchanged(NoName, purse, "take", name, 1)
        for name, full in (("groat", 40), ("penny", 10), ("mite", 1)):
            for weight in (0, full + 1, -1, 1001, True, False):
                self.unchanged(NoWeight, purse, "take", name, weight)
        for many in NO_MANYS:
            self.unchanged(NoMany, purse, "take", "groat", 40, many)
            self.unchanged(NoMany, purse, "take", "groat", 40, many=many)

    def test_the_order_of_refusals(self):
        purse = filled()
        for name in NO_PURSE_NAMES:
            self.unchanged(NoName, purse, "take", name, 0)
            self.unchanged(NoName, purse, "take", name, 1, 0)
            self.unchanged(NoName, purse, "take", name, 1, 1000)
        self.unchanged(NoWeight, purse, "take", "groat", 41, 0)
        self.unchanged(NoWeight, purse, "take", "groat", 0, 1000)
        self.unchanged(NoMany, purse, "take", "groat", 40, 1000001)
        self.unchanged(NoMany, purse, "take", "groat", 39, 0)


class ClipTest(PurseCase):
    def test_clip(self):
        purse = filled()
        self.assertEqual(purse.clip("groat", 40, 38), 2)
        self.assertEqual(purse.held()[:3], [("groat", 40, 3), ("groat", 38, 1), ("groat", 36, 1)])
        self.assertEqual(purse.clip("groat", 40, 36, 3), 12)
        self.assertEqual(purse.held()[:3], [("groat", 38, 1), ("groat", 36, 4), ("penny", 10, 7)])
        self.assertEqual(purse.clip("penny", 10, 1, many=7), 63)
        self.assertEqual(purse.held()[2:], [("penny", 9, 1), ("penny", 5, 2), ("penny", 1, 7), ("mite", 1, 3)])

    def test_no_weight_goes_but_what_is_clipped_off(self):
        chance = random.Random(19)
        purse = filled()
        for turn in range(100):
            name, weight, many = chance.choice([row for row in purse.held() if row[1] > 1])
            before, pieces = purse.weight(), sum([row[2] for row in purse.held()])
            off = purse.clip(name, weight, chance.randrange(1, weight), chance.randrange(1, many + 1))
            self.assertEqual(purse.weight(), before - off)
            self.assertGreater(off, 0)
            self.assertEqual(sum([row[2] for row in purse.held()]), pieces)
            if not [row for row in purse.held() if row[1] > 1]:
                break

    def test_lacking(self):
        for given, more in ((("groat", 40, 39, 5), 1), (("groat", 36, 1, 1000000), 999999), (("groat", 39, 38), 1),
                            (("penny", 2, 1, 4), 4)):
            refusal = self.unchanged(Lacking, filled(), "clip", *given)
            self.assertEqual((refusal.name, refusal.many), (given[0], more))

    def test_each_refusal_alone(self):
        purse = filled()
        for name in NO_PURSE_NAMES:
            self.unchanged(NoName, purse, "clip", name, 2, 1)
        for weight in (0, 41, -1, 1001, True, False):
            self.unchanged(NoWeight, purse, "clip", "groat", weight, 1)
        for lesser in (0, 40, 41, -1, True, False):
            self.unchanged(NoWeight, purse, "clip", "groat", 40, lesser)
        for lesser in (0, 1, 2, True):
            self.unchanged(NoWeight, purse, "clip", "mite", 1, lesser)
        for many in NO_MANYS:
            self.unchanged(NoMany, purse, "clip", "groat", 40, 39, many)
            self.unchanged(NoMany, purse, "clip", "groat", 40, 39, many=many)

    def test_the_order_of_refusals(self):
        purse = filled()
        for name in NO_PURSE_NAMES:
            self.unchanged(NoName, purse, "clip", name, 0, 1)
            self.unchanged(NoName, purse, "clip", name, 2, 2)
            self.unchanged(NoName, purse, "clip", name, 2, 1, 0)
            self.unchanged(NoName, purse, "clip", name, 2, 1, 1000)
        self.unchanged(NoWeight, purse, "clip", "groat", 41, 1, 0)
        self.unchanged(NoWeight, purse, "clip", "groat", 41, 1, 1000)
        self.unchanged(NoWeight, purse, "clip", "groat", 40, 40, 0)
        self.unchanged(NoWeight, purse, "clip", "groat", 39, 39, 1000)
        self.unchanged(NoMany, purse, "clip", "groat", 39, 38, 0)
        self.unchanged(NoMany, purse, "clip", "groat", 40, 39, 1000001)


class PourTest(PurseCase):
    def test_pour(self):
        purse = purse_of(("groat", 40, 1), ("penny", 8, 2))
        other = filled()
        self.assertIsNone(purse.pour(other))
        self.assertEqual(purse.held(), [("groat", 40, 5), ("groat", 36, 1), ("penny", 10, 7), ("penny", 9, 1),
                                        ("penny", 8, 2), ("penny", 5, 2), ("mite", 1, 3)])
        self.assertEqual((other.held(), len(other), other.weight()), ([], 0, 0))

    def test_the_two_are_apart_behind_it(self):
        purse, other = Purse(KINDS), filled()
        purse.pour(other)
        self.assertEqual(purse.held(), HELD)
        other.put("groat", 40)
        purse.take("penny", 9)
        self.assertEqual(other.held(), [("groat", 40, 1)])
        self.assertEqual(purse.held(), HELD[:3] + HELD[4:])

    def test_an_empty_one(self):
        purse, other = filled(), Purse(KINDS)
        purse.pour(other)
        self.assertEqual((purse.held(), other.held()), (HELD, []))

    def test_into_itself(self):
        purse = filled()
        self.assertIsNone(purse.pour(purse))
        self.assertEqual(purse.held(), HELD)
        purse.put("groat", 40)
        self.assertEqual(purse.held()[0], ("groat", 40, 5))
        empty = Purse(KINDS)
        empty.pour(empty)
        self.assertEqual(empty.held(), [])

    def test_equal_kinds_that_are_not_the_same_things(self):
        purse = Purse([Kind("groat", 40, 36), Kind("penny", 10, 9), Kind("mite", 1, 1)])
        purse.pour(filled())
        self.assertEqual(purse.held(), HELD)

    def test_unlike_kinds(self):
        for kinds in ([GROAT, PENNY], [GROAT, MITE, PENNY], [PENNY, GROAT, MITE], [GROAT, PENNY, MITE, Kind("noble", 5, 5)],
                      [GROAT, Kind("penny", 10, 8), MITE], [GROAT, Kind("penny", 11, 9), MITE],
                      [GROAT, Kind("pence", 10, 9), MITE], [GROAT]):
            purse = filled()
            other = purse_of(("groat", 30, 2), kinds=kinds)
            self.refused(NoKinds, purse.pour, other)
            self.refused(NoKinds, other.pour, purse)
            self.assertEqual((purse.held(), other.held()), (HELD, [("groat", 30, 2)]))


class HeldTest(PurseCase):
    def test_by_the_order_of_kinds_the_heavier_ones_first(self):
        self.assertEqual(filled().held(), HELD)
        self.assertEqual([type(row) for row in filled().held()], [tuple] * 6)
        self.assertEqual(len(filled()), 6)
        self.assertEqual(Purse(KINDS).held(), [])
        self.assertEqual(purse_of(("groat", 9), ("groat", 10), kinds=[GROAT]).held(), [("groat", 10, 1), ("groat", 9, 1)])

    def test_the_list_is_the_askers_own(self):
        purse = filled()
        told = purse.held()
        told.clear()
        self.assertEqual(purse.held(), HELD)
        told = purse.held()
        purse.take("groat", 40)
        self.assertEqual(told, HELD)

    def test_equality(self):
        self.assertEqual(filled(), filled())
        self.assertEqual(filled(), purse_of(*HELD))
        self.assertFalse(filled() != purse_of(*HELD))
        for row in (("groat", 40), ("groat", 39), ("mite", 1)):
            self.assertFalse(filled() == purse_of(*HELD, row))
            self.assertTrue(filled() != purse_of(*HELD, row))
        self.assertFalse(filled() == purse_of(*HELD[1:]))
        self.assertFalse(filled() == Purse(KINDS))
        self.assertEqual(Purse(KINDS), Purse(list(KINDS)))

    def test_equality_is_that_of_kinds_too(self):
        for kinds in ([GROAT, MITE, PENNY], [GROAT, PENNY, Kind("mite", 2, 1)], [GROAT, Kind("penny", 10, 8), MITE],
                      [GROAT, PENNY, MITE, Kind("noble", 5, 5)]):
            self.assertFalse(purse_of(*HELD, kinds=kinds) == filled())
            self.assertFalse(Purse(kinds) == Purse(KINDS))

    def test_equality_behind_deeds_that_undo_one_another(self):
        purse = filled()
        purse.put("groat", 20, 3)
        purse.take("groat", 20, 3)
        self.assertEqual(purse, filled())
        purse.clip("groat", 40, 20)
        purse.put("groat", 40)
        purse.take("groat", 20)
        self.assertEqual(purse, filled())

    def test_other_things(self):
        for thing in (None, 0, HELD, tuple(HELD), KINDS, "purse", True, False):
            self.assertFalse(filled() == thing)
            self.assertFalse(thing == filled())
            self.assertFalse(Purse(KINDS) == thing)

    def test_weight(self):
        self.assertEqual(filled().weight(), 160 + 36 + 70 + 9 + 10 + 3)
        self.assertEqual(purse_of(("penny", 7, 1000000)).weight(), 7000000)
        self.assertEqual(Purse(KINDS).weight(), 0)


class WorthTest(PurseCase):
    def test_worth(self):
        purse = filled()
        self.assertEqual(purse.worth({"groat": 48, "penny": 12, "mite": 1}), 5 * 48 + 8 * 12 + 2 * 6 + 3)
        self.assertEqual(purse.worth({"groat": 1000000}), 5000000)
        self.assertEqual(purse.worth({"penny": 1}), 8)
        self.assertEqual(purse.worth({}), 0)
        self.assertEqual(Purse(KINDS).worth({"groat": 48}), 0)

    def test_what_is_over_is_left_out_piece_by_piece(self):
        self.assertEqual(purse_of(("penny", 5, 2)).worth({"penny": 13}), 12)
        self.assertEqual(purse_of(("penny", 5, 1000000)).worth({"penny": 1}), 0)

    def test_names_of_no_kind_of_the_purse(self):
        self.assertEqual(filled().worth({"noble": 100, "mite": 2, "groats": 7}), 6)
        self.assertEqual(filled().worth({"noble": 100}), 0)

    def test_no_worth(self):
        for worth in NO_WORTHS:
            for purse in (filled(), Purse(KINDS)):
                self.unchanged(NoWorth, purse, "worth", {"groat": worth})
                self.unchanged(NoWorth, purse, "worth", {"groat": 1, "penny": 2, "mite": worth})
                self.unchanged(NoWorth, purse, "worth", {"groat": worth, "penny": 2})
                self.unchanged(NoWorth, purse, "worth", {"groat": 1, "noble": worth})

    def test_the_dict_stays_as_it_is(self):
        worths = {"penny": 12, "noble": 5}
        purse = filled()
        purse.worth(worths)
        self.refused(TooMany, purse.pieces, worths)
        purse_of(("groat", 3)).pieces(worths)
        self.assertEqual(list(worths.items()), [("penny", 12), ("noble", 5)])


class PiecesTest(PurseCase):
    def test_in_the_order_of_held(self):
        purse = purse_of(("mite", 1, 2), ("penny", 5), ("penny", 9, 3), ("groat", 35), ("groat", 40, 2))
        self.assertEqual(purse.pieces({"groat": 48, "penny": 13, "noble": 9}), [
            ("groat", 40, 48), ("groat", 40, 48), ("groat", 35, 42), ("penny", 9, 13), ("penny", 9, 13),
            ("penny", 9, 13), ("penny", 5, 6), ("mite", 1, 0), ("mite", 1, 0)])
        self.assertEqual(Purse(KINDS).pieces({}), [])
        self.assertEqual([type(row) for row in purse.pieces({})], [tuple] * 9)

    def test_all_together_they_are_worth_what_the_purse_is(self):
        purse = purse_of(("penny", 5, 4), ("groat", 35, 3), ("groat", 36))
        worths = {"groat": 49, "penny": 13}
        self.assertEqual(sum([worth for name, weight, worth in purse.pieces(worths)]), purse.worth(worths))

    def test_12_pieces_and_13(self):
        for rows in ((("groat", 40, 12),), (("groat", 40, 5), ("groat", 1, 3), ("mite", 1, 4))):
            purse = purse_of(*rows)
            self.assertEqual(len(purse.pieces({"groat": 1})), 12)
            purse.put("penny", 10)
            self.unchanged(TooMany, purse, "pieces", {"groat": 1})
            self.unchanged(TooMany, purse, "pieces", {})
        self.unchanged(TooMany, purse_of(("groat", 40, 13)), "pieces", {})
        self.unchanged(TooMany, purse_of(("groat", 40, 1000000)), "pieces", {"penny": 1})

    def test_no_worth_comes_ahead(self):
        for worth in NO_WORTHS:
            for purse in (Purse(KINDS), purse_of(("groat", 40, 2)), purse_of(("groat", 40, 13))):
                self.unchanged(NoWorth, purse, "pieces", {"groat": worth})
                self.unchanged(NoWorth, purse, "pieces", {"groat": 1, "noble": worth})

    def test_the_list_is_the_askers_own(self):
        purse = purse_of(("groat", 40, 2))
        purse.pieces({}).clear()
        self.assertEqual(purse.pieces({}), [("groat", 40, 0)] * 2)


if __name__ == "__main__":
    unittest.main()
