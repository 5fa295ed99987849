"""Point 31."""

import random
import unittest

from callcoin.desk import answered
from callcoin.errors import CoinError, NoKinds, NoMoney, NoName, NoPeople, NoText, NoWeight
from callcoin.forms import form
from callcoin.house import House
from callcoin.moneys import Money
from callcoin.terms import Called
from tests.cases import CoinCase
from tests.rules import chance_term
from tests.slowhouse import KINDS, PEOPLE, chance_deed

HEAD = ["money pound 20 shilling 12 penny", "kind groat 40 36", "kind penny 10 9", "people ann bob cid", ""]


def text_of(rows):
    """Rows, each ended by a line end."""
    return "".join(row + "\n" for row in rows)


class DeskCase(CoinCase):
    def asked(self, *rows, head=HEAD):
        """The answers to some rows behind a head."""
        told = answered(text_of(list(head) + list(rows)))
        self.assertIs(type(told), str)
        answers = told.split("\n")
        self.assertEqual(answers.pop(), "")
        self.assertEqual(len(answers), len(rows))
        return answers

    def look(self, *pairs, head=HEAD):
        """Looks for these answers to these rows."""
        self.assertEqual(list(zip([row for row, told in pairs], self.asked(*[row for row, told in pairs], head=head))), list(pairs))


class HeadTest(DeskCase):
    def test_no_row_behind(self):
        self.assertEqual(answered(text_of(HEAD)), "")
        self.assertEqual(answered("money penny\nkind penny 1 1\npeople a\n\n"), "")

    def test_the_money_may_have_six_units_and_there_may_be_12_kinds_and_8_people(self):
        head = ["money a 2 b 1000 c 2 d 2 e 2 f"] + [f"kind {letter} 1000 1" for letter in "abcdefghijkl"] + ["people a b c d e f g h", ""]
        self.look(("1 strike h l 5", "1"), ("held h", "l 1000 5"), ("1 call a l 3 c 1 f", "2"), ("worth h a 1", "15 c 1 d 1 f"), head=head)

    def test_other_forms(self):
        money, groat, penny, people, empty = HEAD
        row = "held ann"
        heads = [
            [], [empty], [money], [money, groat], [money, groat, people], [money, people, empty], [money, groat, empty], [groat, people, empty],
            [money, empty], [people, empty], [money, groat, people, row], [money, groat, people, people, empty], [money, money, groat, people, empty],
            [groat, money, people, empty], [money, people, groat, empty], [money, groat, people, penny, empty], [people, groat, money, empty],
            [empty] + HEAD, [money, empty, groat, people, empty], [money, groat, empty, people, empty], [money, groat, people, " ", empty],
            [money, groat, people, row, empty], [money, groat, people, "kind", empty],
        ]
        for head in heads:
            for behind in ([], [row]):
                self.refused(NoText, answered, text_of(head + behind))

    def test_other_forms_of_each_row(self):
        rows = (
            ("money", "money ", "Money penny", "money Penny", "money penny ", " money penny", "money  penny", "money pound 20", "money pound shilling",
             "money 20 penny", "money pound 20 shilling 12", "money pound 020 penny", "money pound -2 penny", "money pound x penny",
             "money pound 12345678901234567 penny", "money pound  20 penny", "money pound 20 penny 1", "money p2 penny", "monies penny", "moneypenny",
             "money pound 20 20 penny", "money pound, 20 penny"),
            ("kind", "kind ", "kind groat", "kind groat 40", "kind groat 40 36 1", "kind groat 40 36 ", " kind groat 40 36", "kind  groat 40 36",
             "kind groat  40 36", "Kind groat 40 36", "kind Groat 40 36", "kind groat 040 36", "kind groat 40 -36", "kind groat 40 x", "kind 40 36 groat",
             "kind groat groat 40 36", "kinds groat 40 36", "kind groat 12345678901234567 1", "kind gr0at 40 36", "kind groat +40 36"),
            (),
            ("people", "people ", "people Ann", "people ann ", " people ann", "people  ann", "people ann  bob", "People ann", "people ann, bob", "people ann 5",
             "persons ann", "people ann bob2"),
        )
        for at, bad_rows in enumerate(rows):
            for bad in bad_rows:
                self.refused(NoText, answered, text_of(HEAD[:at] + [bad] + HEAD[at + 1:]))
                self.refused(NoText, answered, text_of(HEAD[:at] + [bad] + HEAD[at + 1:] + ["held ann"]))

    def test_no_line_end_at_the_end(self):
        self.refused(NoText, answered, "")
        self.refused(NoText, answered, "\n")
        self.refused(NoText, answered, "\n\n")
        self.refused(NoText, answered, "held ann\n")
        for rows in (HEAD[:-1], HEAD, HEAD + ["held ann"], HEAD + ["", "held ann"]):
            self.refused(NoText, answered, text_of(rows)[:-1])
        self.refused(NoText, answered, text_of(HEAD)[:-2])
        self.refused(NoText, answered, text_of(HEAD) + "held ann")
        self.refused(NoText, answered, text_of(HEAD) + "held ann\nheld bob")
        self.refused(NoText, answered, text_of(HEAD) + " ")

    def test_refused_as_the_money_the_kinds_the_house_are(self):
        rows = (
            (0, NoName, ("money pennypiec", "money poundsterl 20 penny", "money pound 1 pennypiec", "money pennypiec 5 pennypiec")),
            (0, NoMoney, ("money pound 1 penny", "money pound 1001 penny", "money pound 0 penny", "money penny 5 penny", "money a 2 b 2 c 2 d 2 e 2 f 2 g",
                          "money pound 9999999999999999 penny")),
            (1, NoName, ("kind groatgroa 40 36", "kind groatgroa 0 0")),
            (1, NoWeight, ("kind groat 0 0", "kind groat 1001 1", "kind groat 40 41", "kind groat 40 0", "kind groat 9999999999999999 1")),
            (1, NoKinds, ("kind penny 40 36",)),
            (3, NoName, ("people ann bobbobbob", "people annannann annannann", "people a b c d e f g h annannann")),
            (3, NoPeople, ("people ann ann", "people a b c d e f g h i")),
        )
        for at, error, bad_rows in rows:
            for bad in bad_rows:
                head = HEAD[:at] + [bad] + HEAD[at + 1:]
                self.refused(error, answered, text_of(head))
                self.refused(error, answered, text_of(head + ["held ann"]))
                # Those told behind come later, and another form comes first.
                for later, worse in ((1, "kind groat 0 1"), (2, "kind pennypiec 1 1"), (3, "people ann ann")):
                    if later > at and (error, later) != (NoKinds, 2):
                        self.refused(error, answered, text_of(head[:later] + [worse] + head[later + 1:]))
                self.refused(NoText, answered, text_of(head)[:-1] + "held ann")
                self.refused(NoText, answered, text_of(head[:3] + ["people Ann", ""]))
        kinds = [f"kind {letter} 10 5" for letter in "abcdefghijklm"]
        self.refused(NoKinds, answered, text_of(HEAD[:1] + kinds + ["people annannann", ""]))
        self.refused(NoKinds, answered, text_of(HEAD[:1] + kinds + HEAD[3:]))


class DeedsTest(DeskCase):
    def test_each_deed(self):
        self.look(("12 strike ann groat 5", "1"), ("12 call york groat 4 shilling", "2"), ("13 give ann bob groat 40 3", "3"),
                  ("13 clip bob groat 40 30 1", "4"), ("13 lend ann bob york 10 shilling by paid", "5"), ("14 pay 5 groat 40 2", "6"),
                  ("14 bring bob groat 30 1", "7"), ("15 shut groat", "8"), ("held ann", "groat 40 4"), ("held bob", "none"),
                  ("left 5", "2 shilling"), ("15 strike ann groat 1", "refused"), ("16 shut penny", "9"))

    def test_rows_of_other_forms(self):
        ahead = ("5 strike ann groat 5", "5 lend ann bob york 4 shilling by made", "5 strike bob groat 5", "5 call york groat 9 penny")
        good = ("6 strike ann groat 1", "6 call york groat 5 penny", "6 give ann bob groat 40 1", "6 clip ann groat 40 30 1",
                "6 lend ann bob york 4 shilling by made", "6 pay 2 groat 40 1", "6 bring ann groat 40 1", "6 shut penny",
                "held ann", "held ann 5", "left 2", "left 2 5", "worth ann york 5", "dead york 5", "pay ann york 5 3 penny", "alike made | paid")
        self.assertNotIn("refused", self.asked(*ahead, *good))
        bad = ["", " ", "strike ann groat 1", "6", "6 ", "held", "left", "worth", "dead", "pay", "alike", "6 6 strike ann groat 1", "refused",
               "6 held ann", "6 left 2", "hold ann", "Held ann", "6 Strike ann groat 1", "06 strike ann groat 1", "-6 strike ann groat 1",
               "10000 strike ann groat 1", "x strike ann groat 1", "6 strike ann groat 01", "6 strike ann groat x", "6 strike ann groat -1",
               "6 strike ann groat 0", "6 strike ann groat 1000001", "6 strike dan groat 1", "6 strike ann noble 1", "6 give ann bob groat 040 1",
               "6 give ann bob groat 41 1", "6 give ann bob groat 40 6", "6 clip ann groat 40 40 1", "6 call york groat 5", "6 call york groat penny",
               "6 call york groat", "6 call york groat 0 shilling", "6 call york groat 5 penny 1 shilling", "6 call york groat 1000001 penny",
               "6 call York groat 5 penny", "6 call york groat 9999999999999999 penny", "6 call york groat 5 groat",
               "6 lend ann bob york 4 shilling made", "6 lend ann bob york 4 shilling by", "6 lend ann bob york 4 shilling by ",
               "6 lend ann bob york by made", "6 lend ann bob york 4 by made", "6 lend ann bob york 4 shilling by made by made",
               "6 lend ann bob york 4 shilling  by made", "6 lend ann bob york 4 shilling by  made", "6 lend ann bob 4 shilling by made",
               "6 lend ann bob york 4 shilling by least(made)", "6 lend ann bob york 4 shilling by Made", "6 lend ann bob york 4166666666667 pound by made",
               "6 lend by made", "6 lend", "6 call", "6 shut", "6 shut groat penny", "6 pay", "6 pay ann york 5 3 penny", "6 pay 3 groat 40 1",
               "6 pay 02 groat 40 1", "6 pay 2 groat 40", "held dan", "held ann 05", "held ann x", "held ann 10000", "held ann 5 5", "left 1", "left x",
               "left 02", "left 2 x", "left 2 4", "left 2 5 5", "left 0", "worth ann york", "worth ann york 5 5", "worth ann York 5", "worth dan york 5",
               "worth ann york x", "dead york", "dead york x", "dead york 5 5", "dead York 5", "pay ann york 5", "pay ann york 3 penny",
               "pay ann york 5 3", "pay ann york 5 penny", "pay ann york 05 3 penny", "pay dan york 5 3 penny", "pay ann York 5 3 penny",
               "alike made", "alike made paid", "alike made | ", "alike | made", "alike made | made | made", "alike made |made", "alike made| made",
               "alike least(made) | made", "alike made | Paid", "alike at 1000001 | made", "alike  made | made", "left 9999999999999999",
               "6 pay 9999999999999999 groat 40 1", "left 12345678901234567"]
        for row in good:
            bad += [row + " ", " " + row, row.replace(" ", "  ", 1), "  ".join(row.rsplit(" ", 1)), row + ",", row.upper(), row + " 7 7"]
        for row in bad:
            with self.subTest(row):
                answers = self.asked(*ahead, row, "held ann", "held bob", "left 2", "worth ann york 9", "9 call york penny 1 penny")
                self.assertEqual(answers, ["1", "2", "3", "4", "refused", "groat 40 5", "groat 40 5", "4 shilling", "3 shilling 9 penny", "5"])

    def test_amounts_with_more_of_a_unit(self):
        self.look(("5 call york groat 25 shilling", "1"), ("5 strike ann groat 1", "2"), ("worth ann york 5", "1 pound 5 shilling"),
                  ("5 lend ann bob york 1 pound 45 shilling 100 penny by made", "3"), ("left 3", "3 pound 13 shilling 4 penny"),
                  ("5 call york groat 0 penny", "4"), ("worth ann york 5", "0 penny"), ("5 lend ann bob york 0 penny by made", "5"), ("left 5", "0 penny"),
                  ("5 call york groat 4166 pound 13 shilling 4 penny", "6"), ("worth ann york 5", "4166 pound 13 shilling 4 penny"),
                  ("5 call york groat 4166 pound 13 shilling 5 penny", "refused"), ("pay ann york 5 83333 shilling", "groat 40 for 4166 pound 13 shilling 4 penny"),
                  ("5 lend ann bob york 1000000000000000 penny by made", "7"), ("left 7", "4166666666666 pound 13 shilling 4 penny"),
                  ("5 lend ann bob york 1000000000000001 penny by made", "refused"))

    def test_rules_behind_the_last_by(self):
        head = ["money by 12 made", "kind by 40 36", "kind lend 5 5", "people by lend made", ""]
        self.look(("5 lend by by by 1 by 1 made by least(made, paid)", "1"), ("left 1", "1 by 1 made"), ("5 lend lend by by 7 by by made in by", "2"),
                  ("left 2", "7 by"), ("5 lend lend by by 7 by made", "refused"), ("5 lend made lend by 7 made by least(paid in by, day 3 in lend)", "3"),
                  ("left 3", "7 made"), ("5 call by by 1 by", "4"), ("5 strike by by 2", "5"), ("5 pay 2 by 40 1", "6"), ("left 2", "6 by"),
                  ("held by", "by 40 1"), ("held lend", "by 40 1"), ("worth lend by 5", "1 by"), ("dead lend 5", "by by 40 1, lend by 40 1"), head=head)

    def test_names_that_are_the_desks_own_words(self):
        head = ["money money 20 for 12 none", "kind kind 40 36", "kind people 10 9", "people held left worth dead pay alike short refused", ""]
        self.look(("5 strike held kind 2", "1"), ("5 strike pay people 1", "2"), ("held held", "kind 40 2"), ("held held 5", "kind 40 2"),
                  ("5 call held kind 1 for", "3"), ("worth held held 5", "2 for"), ("dead held 5", "pay people 10 1"), ("pay held held 5 13 none", "kind 40, kind 40 for 2 for"),
                  ("pay held held 5 3 for", "short 2 for"), ("5 give held alike kind 40 1", "4"), ("held alike", "kind 40 1"), ("5 shut people", "5"),
                  ("5 lend left dead held 3 for by paid in held", "6"), ("left 6", "3 for"), head=head)

    def test_a_refused_row_bears_no_number(self):
        self.look(("5 strike ann groat 1", "1"), ("5 bring ann groat 40 2", "refused"), ("6 lend ann bob york 1 penny by made", "2"), ("left 2", "1 penny"),
                  ("4 bring ann groat 40 1", "refused"), ("5 bring ann groat 40 1", "3"))

    def test_100_tellings(self):
        rows = [("5 call york groat 3 penny", str(number)) for number in range(1, 101)] + [("5 call york groat 4 penny", "refused"), ("held ann", "none")]
        self.look(*rows)


class QuestionsTest(DeskCase):
    def test_held(self):
        self.look(("held ann", "none"), ("5 strike ann penny 3", "1"), ("4 strike ann groat 2", "2"), ("6 clip ann groat 40 7 1", "3"),
                  ("held ann", "groat 40 1, groat 7 1, penny 10 3"), ("held ann 5", "groat 40 2, penny 10 3"), ("held ann 4", "groat 40 2"),
                  ("held ann 3", "none"), ("held bob", "none"), ("held ann 9999", "groat 40 1, groat 7 1, penny 10 3"))

    def test_left_worth_and_dead(self):
        self.look(("3 lend ann bob york 4 shilling by least(made, paid)", "1"), ("3 call york groat 2 shilling", "2"), ("3 strike bob groat 9", "3"),
                  ("left 1", "4 shilling"), ("5 pay 1 groat 40 1", "4"), ("left 1", "2 shilling"), ("left 1 4", "4 shilling"), ("left 1 2", "refused"),
                  ("4 call york groat 1 shilling 3 penny", "5"), ("left 1", "2 shilling 9 penny"), ("5 pay 1 groat 40 8", "6"), ("left 1", "0 penny"),
                  ("worth ann york 5", "11 shilling 3 penny"), ("worth ann york 3", "0 penny"), ("worth bob york 3", "18 shilling"), ("worth ann hull 5", "0 penny"),
                  ("dead york 5", "none"), ("dead york 2", "none"), ("dead hull 5", "ann groat 40 9"), ("dead hull 3", "bob groat 40 9"),
                  ("5 strike bob penny 2", "7"), ("dead york 5", "bob penny 10 2"), ("dead hull 5", "ann groat 40 9, bob penny 10 2"))

    def test_pay(self):
        self.look(("5 strike ann groat 2", "1"), ("5 strike ann penny 3", "2"), ("5 call york groat 5 penny", "3"), ("5 call york penny 2 penny", "4"),
                  ("pay ann york 5 0 penny", "none for 0 penny"), ("pay ann york 5 1 penny", "penny 10 for 2 penny"),
                  ("pay ann york 5 5 penny", "groat 40 for 5 penny"), ("pay ann york 5 6 penny", "penny 10, penny 10, penny 10 for 6 penny"),
                  ("pay ann york 5 8 penny", "groat 40, penny 10, penny 10 for 9 penny"), ("pay ann york 5 1 shilling 4 penny",
                  "groat 40, groat 40, penny 10, penny 10, penny 10 for 1 shilling 4 penny"), ("pay ann york 5 17 penny", "short 1 shilling 4 penny"),
                  ("pay ann york 4 1 penny", "short 0 penny"), ("pay ann york 4 0 penny", "none for 0 penny"), ("pay bob york 5 1 penny", "short 0 penny"),
                  ("pay ann hull 5 1 penny", "short 0 penny"), ("6 clip ann groat 40 20 1", "5"), ("pay ann york 6 7 penny", "groat 40, groat 20 for 7 penny"),
                  ("pay ann york 5 7 penny", "groat 40, penny 10 for 7 penny"), ("held ann", "groat 40 1, groat 20 1, penny 10 3"))

    def test_pay_with_12_pieces_and_13(self):
        self.look(("5 call york penny 1 penny", "1"), ("5 strike ann penny 12", "2"), ("pay ann york 5 1 shilling", ", ".join(["penny 10"] * 12) + " for 1 shilling"),
                  ("6 strike ann groat 1", "3"), ("pay ann york 6 1 penny", "refused"), ("pay ann york 6 0 penny", "refused"), ("pay ann york 5 1 penny", "penny 10 for 1 penny"))

    def test_pay_with_more_than_1000_totals(self):
        kinds = [f"kind {letter} 1 1" for letter in "abcdefghijk"]
        head = HEAD[:1] + kinds + HEAD[3:]
        rows = []
        for power, letter in enumerate("abcdefghijk"):
            rows += [(f"5 strike ann {letter} 1", str(2 * power + 1)), (f"5 call york {letter} {1 << power} penny", str(2 * power + 2))]
        rows += [("pay ann york 5 1000 penny", "d 1, f 1, g 1, h 1, i 1, j 1 for 4 pound 3 shilling 4 penny"), ("pay ann york 5 1001 penny", "refused"),
                 ("pay ann york 5 3000 penny", "refused")]
        self.look(*rows, head=head)

    def test_alike(self):
        self.look(("alike made | made", "yes"), ("alike made | paid", "no"), ("alike least(made, paid) | made", "no"), ("alike least(made, made) | made", "yes"),
                  ("alike least(made, paid) | least(paid, made)", "yes"), ("alike greatest(made, least(made, paid)) | made", "yes"),
                  ("alike at 0 | least(at 0, paid)", "yes"), ("alike at 5 | at 6", "no"), ("alike day 3 in york | day 3", "no"),
                  ("alike least(at 1000000, made) | made", "yes"))
        seven = "least(made, paid, day 1, day 2, day 3, day 4, day 5)"
        self.look((f"alike {seven} | made", "refused"), (f"alike made | {seven}", "refused"))
        # Each has six calls at most, though both together have more.
        self.look(("alike least(day 1, day 2, day 3, day 4) | least(day 5, day 6, day 7, day 8)", "no"))

    def test_alike_by_forms(self):
        chance = random.Random(31)
        calls = [("made", None), ("paid", None), (3, "york"), ("made", "bath")]
        for turn in range(60):
            one, other = chance_term(chance, calls, 3), chance_term(chance, calls, 3)
            self.look((f"alike {one} | {other}", "yes" if form(one) == form(other) else "no"))


class WholeTest(DeskCase):
    def written(self, money, day, deed):
        """A row that tells a deed."""
        if deed[0] == "call":
            return f"{day} call {deed[1]} {deed[2]} {money.text(deed[3])}"
        if deed[0] == "lend":
            return f"{day} {' '.join(deed[:4])} {money.text(deed[4])} by {deed[5]}"
        return f"{day} " + " ".join(str(part) for part in deed)

    def test_as_a_house_that_is_told_the_same(self):
        money = Money([("pound", 20), ("shilling", 12), ("penny", 1)])
        terms = [Called("made"), Called("paid", "york")]
        for seed in range(6):
            chance = random.Random(500 + seed)
            house = House(KINDS, PEOPLE)
            rows = []
            for step in range(40):
                debts = [number for number, (day, deed) in enumerate(house.rows, start=1) if deed[0] == "lend"]
                day, deed = chance.randrange(8), chance_deed(chance, terms, debts)
                try:
                    told = str(house.tell(day, deed))
                except CoinError:
                    told = "refused"
                rows.append((self.written(money, day, deed), told))
                who, town = chance.choice(PEOPLE), chance.choice(("york", "bath"))
                held = ", ".join(f"{name} {weight} {many}" for name, weight, many in house.held(who, day))
                dead = ", ".join(f"{owner} {name} {weight} {many}" for owner, name, weight, many in house.dead(town, day))
                rows += [(f"held {who} {day}", held or "none"), (f"worth {who} {town} {day}", money.text(house.worth(who, town, day))),
                         (f"dead {town} {day}", dead or "none")]
                if debts:
                    rows.append((f"left {debts[-1]}", money.text(house.left(debts[-1]))))
            self.look(*rows)


if __name__ == "__main__":
    unittest.main()
