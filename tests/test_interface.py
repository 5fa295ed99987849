"""The interface: names, arguments, and methods that stand in the very class."""

import importlib
import inspect
import unittest

FUNCTIONS = {
    "names": ("is_name(text)",),
    "terms": ("term_of(told)",),
    "termtexts": ("read_term(text)",),
    "forms": ("form(term)", "form_worth(form, calls, kind, case)", "parted(one, other)"),
    "paying": ("sums_below(worths, due)", "least_over(worths, due)"),
    "backing": ("with_change(mine, theirs, due)",),
    "judging": ("judged(changers)",),
    "rounds": ("at_calls(calls, town, kinds, day)", "roads(one, other, kinds)"),
    "desk": ("answered(text)",),
}
RULE = ("worth(self, calls, kind, case)", "told(self)", "text(self)")
CLASSES = {
    ("moneys", "Money"): ("__init__(self, units)", "parts(self, amount)", "text(self, amount)", "amount(self, text)"),
    ("bridges", "Bridge"): ("__init__(self, one, other, given, gained)", "there(self, amount)",
                            "back(self, whole, rest)", "all_there(self, amounts)"),
    ("calls", "Calls"): ("__init__(self)", "tell(self, town, kind, day, worth)",
                         "worth(self, town, kind, day, known=None)", "turns(self, town, kind, known=None)",
                         "tellings(self, known=None)", "__len__(self)"),
    ("terms", "Term"): RULE,
    ("terms", "Level"): RULE + ("__init__(self, level)", "__eq__(self, other)", "__str__(self)"),
    ("terms", "Called"): RULE + ("__init__(self, when, town=None)", "__eq__(self, other)", "__str__(self)"),
    ("terms", "Least"): RULE + ("__init__(self, terms)", "__eq__(self, other)", "__str__(self)"),
    ("terms", "Greatest"): RULE + ("__init__(self, terms)", "__eq__(self, other)", "__str__(self)"),
    ("kinds", "Kind"): ("__init__(self, name, full, least)", "counted(self, weight, worth)", "__eq__(self, other)"),
    ("purses", "Purse"): ("__init__(self, kinds)", "put(self, name, weight, many=1)", "take(self, name, weight, many=1)",
                          "clip(self, name, weight, lesser, many=1)", "pour(self, other)", "held(self)",
                          "__len__(self)", "__eq__(self, other)", "weight(self)", "worth(self, worths)",
                          "pieces(self, worths)"),
    ("changers", "Changers"): ("__init__(self, rows)", "goods(self)", "changed(self, stock, number, lots=1)"),
    ("debts", "Debts"): ("__init__(self, calls, kinds)", "lend(self, town, day, amount, term)",
                         "pay(self, debt, day, name, weight, many=1)", "counted(self, debt, day=None)",
                         "left(self, debt, day=None)", "over(self, debt, day=None)", "met(self, debt)",
                         "payments(self, debt)"),
    ("house", "House"): ("__init__(self, kinds, people)", "tell(self, day, deed)", "held(self, who, day=None, known=None)",
                         "there(self, kind, day=None, known=None)", "clipped(self, kind, day=None, known=None)",
                         "left(self, debt, day=None, known=None)", "over(self, debt, day=None, known=None)",
                         "owed(self, who, day=None, known=None)", "worth(self, who, town, day, known=None)",
                         "dead(self, town, day, known=None)"),
}


class InterfaceTest(unittest.TestCase):
    def look(self, place, rows):
        for row in rows:
            name = row.partition("(")[0]
            with self.subTest((place, name)):
                self.assertIn(name, vars(place))
                self.assertEqual(name + str(inspect.signature(vars(place)[name])), row)

    def test_functions(self):
        for module, rows in FUNCTIONS.items():
            self.look(importlib.import_module(f"callcoin.{module}"), rows)

    def test_methods_stand_in_the_class_itself(self):
        for (module, name), rows in CLASSES.items():
            self.look(getattr(importlib.import_module(f"callcoin.{module}"), name), rows)


if __name__ == "__main__":
    unittest.main()
