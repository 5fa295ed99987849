"""Point 25."""

import random
import unittest

from callcoin.calls import Calls
from callcoin.changers import Changers
from callcoin.errors import NoDay, NoKinds, NoName, NoRow
from callcoin.judging import judged
from callcoin.rounds import at_calls, roads
from tests.cases import NO_DAYS, NO_NAMES, CoinCase

KINDS = ["groat", "penny", "noble", "crown"]


def book(rows):
    """A book of calls, of rows (town, kind, day, worth)."""
    calls = Calls()
    for row in rows:
        calls.tell(*row)
    return calls


class AtCallsTest(CoinCase):
    def setUp(self):
        self.calls = book([("york", "groat", 5, 48), ("york", "penny", 5, 12), ("york", "noble", 5, 80), ("bath", "groat", 0, 7),
                           ("york", "groat", 9, 0), ("york", "penny", 7, 18), ("bath", "penny", 9999, 3), ("bath", "crown", 2, 0)])

    def rows(self, town, kinds, day):
        told = at_calls(self.calls, town, kinds, day)
        self.assertIs(type(told), list)
        self.assertEqual([type(row) for row in told], [tuple] * len(told))
        self.assertEqual(at_calls(self.calls, town, tuple(kinds), day), told)
        return told

    def test_rows_in_order(self):
        self.assertEqual(self.rows("york", ["groat", "penny", "noble"], 5), [
            ("york", "groat", 1, "york", "penny", 4), ("york", "groat", 5, "york", "noble", 3),
            ("york", "penny", 4, "york", "groat", 1), ("york", "penny", 20, "york", "noble", 3),
            ("york", "noble", 3, "york", "groat", 5), ("york", "noble", 3, "york", "penny", 20)])
        self.assertEqual(self.rows("york", ["noble", "groat"], 5), [
            ("york", "noble", 3, "york", "groat", 5), ("york", "groat", 5, "york", "noble", 3)])

    def test_days(self):
        self.assertEqual(self.rows("york", ["groat", "penny"], 4), [])
        self.assertEqual(self.rows("york", ["groat", "penny"], 6)[0], ("york", "groat", 1, "york", "penny", 4))
        self.assertEqual(self.rows("york", ["groat", "penny"], 7)[0], ("york", "groat", 3, "york", "penny", 8))
        self.assertEqual(self.rows("york", ["groat", "penny"], 8)[1], ("york", "penny", 8, "york", "groat", 3))
        self.assertEqual(self.rows("york", ["groat", "penny"], 9), [])
        self.assertEqual(self.rows("bath", ["groat", "penny"], 9998), [])
        self.assertEqual(len(self.rows("bath", ["groat", "penny"], 9999)), 2)

    def test_kinds_worth_nothing(self):
        self.assertEqual(self.rows("york", KINDS, 9), [("york", "penny", 40, "york", "noble", 9), ("york", "noble", 9, "york", "penny", 40)])
        self.assertEqual(self.rows("hull", KINDS, 9), [])
        self.assertEqual(self.rows("bath", KINDS, 5), [])
        self.assertEqual(self.rows("york", ["stran", "other"], 9), [])

    def test_how_many_kinds(self):
        self.assertEqual(self.rows("york", [], 5), [])
        self.assertEqual(self.rows("york", ["groat"], 5), [])
        self.assertEqual(len(self.rows("york", KINDS, 5)), 6)
        self.calls.tell("york", "crown", 5, 60)
        self.assertEqual(len(self.rows("york", KINDS, 5)), 12)
        for kinds in (KINDS + ["other"], KINDS * 2, ["groat", "groat"], ["groat", "penny", "groat"], ["a", "b", "c", "c"]):
            self.refused(NoKinds, at_calls, self.calls, "york", kinds, 5)
            self.refused(NoKinds, at_calls, self.calls, "hull", tuple(kinds), 0)

    def test_the_least_numbers(self):
        for one, other, row in ((1000000, 1, (1, 1000000)), (1, 1000000, (1000000, 1)), (1000000, 1000000, (1, 1)),
                                (999999, 1000000, (1000000, 999999)), (600000, 400000, (2, 3)), (7, 7, (1, 1))):
            calls = book([("york", "groat", 0, one), ("york", "penny", 0, other)])
            self.assertEqual(at_calls(calls, "york", ["groat", "penny"], 3)[0], ("york", "groat", row[0], "york", "penny", row[1]))

    def test_what_is_told_late_counts(self):
        self.calls.tell("york", "penny", 5, 24)
        self.assertEqual(self.rows("york", ["groat", "penny"], 6)[0], ("york", "groat", 1, "york", "penny", 2))

    def test_refusals_in_order(self):
        for name in NO_NAMES:
            for day in (5, -1, True):
                for more in ([], ["groat", "groat"], KINDS):
                    self.refused(NoName, at_calls, self.calls, name, more, day)
                    self.refused(NoName, at_calls, self.calls, "york", more + [name], day)
                    self.refused(NoName, at_calls, self.calls, "york", tuple([name] + more), day)
        for day in NO_DAYS:
            for kinds in ([], ["groat"], ["groat", "groat"], KINDS + ["other"]):
                self.refused(NoDay, at_calls, self.calls, "york", kinds, day)

    def test_what_is_handed_in_stays_as_it_is(self):
        kinds = ["groat", "penny"]
        told = at_calls(self.calls, "york", kinds, 5)
        told.clear()
        self.assertEqual(kinds, ["groat", "penny"])
        self.assertEqual(len(self.calls), 8)
        self.assertEqual(len(at_calls(self.calls, "york", kinds, 5)), 2)


class RoadsTest(CoinCase):
    def test_rows_in_order(self):
        told = [("york", "penny", 1, "bath", "penny", 1), ("bath", "penny", 1, "york", "penny", 1),
                ("york", "groat", 1, "bath", "groat", 1), ("bath", "groat", 1, "york", "groat", 1)]
        self.assertEqual(roads("york", "bath", ["penny", "groat"]), told)
        self.assertEqual(roads("york", "bath", ("penny", "groat")), told)
        self.assertIs(type(roads("york", "bath", ("penny",))), list)
        self.assertIs(type(roads("york", "bath", ("penny",))[0]), tuple)
        self.assertEqual(roads("bath", "york", ["york"]), [("bath", "york", 1, "york", "york", 1), ("york", "york", 1, "bath", "york", 1)])

    def test_how_many_kinds(self):
        self.assertEqual(roads("york", "bath", []), [])
        self.assertEqual(len(roads("york", "bath", KINDS)), 8)
        for kinds in (KINDS + ["other"], KINDS * 2, ["groat", "groat"], ("groat", "penny", "groat")):
            self.refused(NoKinds, roads, "york", "bath", kinds)
            self.refused(NoKinds, roads, "york", "york", kinds)

    def test_both_towns_are_one(self):
        for kinds in ([], ["groat"], KINDS):
            self.refused(NoRow, roads, "york", "york", kinds)

    def test_no_name_comes_first(self):
        for name in NO_NAMES:
            for more in ([], ["groat", "groat"], KINDS):
                self.refused(NoName, roads, name, "bath", more)
                self.refused(NoName, roads, "york", name, more)
                self.refused(NoName, roads, name, name, more)
                self.refused(NoName, roads, "york", "york", more + [name])
                self.refused(NoName, roads, "york", "bath", tuple([name] + more))

    def test_what_is_handed_in_stays_as_it_is(self):
        kinds = ["groat", "penny"]
        roads("york", "bath", kinds).clear()
        self.assertEqual(kinds, ["groat", "penny"])
        self.assertEqual(len(roads("york", "bath", kinds)), 4)


class TablesTest(CoinCase):
    def table(self, calls, kinds, day):
        """The table of two towns by the calls of a day, with the roads between them."""
        return Changers(at_calls(calls, "york", kinds, day) + at_calls(calls, "bath", kinds, day) + roads("york", "bath", kinds))

    def test_towns_that_call_alike_are_fair_and_others_gain(self):
        kinds = ["groat", "penny"]
        calls = book([("york", "groat", 0, 48), ("york", "penny", 0, 12), ("bath", "groat", 0, 40), ("bath", "penny", 0, 10),
                      ("bath", "penny", 8, 11), ("bath", "groat", 9, 44)])
        self.assertEqual([judged(self.table(calls, kinds, day))[0] for day in (7, 8, 9)], ["fair", "gain", "fair"])

    def test_against_the_calls(self):
        chance = random.Random(26)
        seen = {"fair": 0, "gain": 0}
        for turn in range(120):
            kinds = KINDS[:chance.choice((2, 3, 4))]
            scale = {town: chance.randrange(1, 9) for town in ("york", "bath")}
            worths = {kind: chance.choice((0, 12, 30, 48)) for kind in kinds}
            calls = Calls()
            for town in scale:
                for kind in kinds:
                    other = chance.random() < 0.2
                    calls.tell(town, kind, 3, chance.choice((0, 0, 12, 30, 48)) if other else worths[kind] * scale[town])
            told = judged(self.table(calls, kinds, 4))
            seen[told[0]] += 1
            # By the calls a round gains just where two kinds that pass in both towns stand otherwise to each other.
            both = [(calls.worth("york", kind, 4), calls.worth("bath", kind, 4)) for kind in kinds]
            both = [pair for pair in both if pair[0] > 0 and pair[1] > 0]
            unlike = any(one[0] * other[1] != one[1] * other[0] for one in both for other in both)
            self.assertEqual(told[0], "gain" if unlike else "fair")
        self.assertGreater(min(seen.values()), 20)


if __name__ == "__main__":
    unittest.main()
