"""Books of debts: sums lent by rules of payment, and the pieces paid for them."""

from callcoin.checks import check_amount, check_day, check_name
from callcoin.errors import NoDay, NoDebt, TooMany
from callcoin.kinds import check_weight, kind_named, own_kinds
from callcoin.names import is_within
from callcoin.purses import check_many

MOST_DEBTS = 100
MOST_PAYMENTS = 300


class Debts:
    """A book of debts, reckoned by a book of calls as that one stands whenever this one is asked."""

    def __init__(self, calls, kinds):
        self.calls = calls
        self.kinds = own_kinds(kinds)
        # Each a tuple (town, day, amount, term); the first one has the number 1.
        self.loans = []
        # Each a tuple (debt, day, name, weight, many), as told.
        self.paid_in = []

    def lend(self, town, day, amount, term):
        """Tells a new debt; it tells the debt's number."""
        check_name(town)
        check_day(day)
        check_amount(amount)
        if len(self.loans) >= MOST_DEBTS:
            raise TooMany("a book has at most 100 debts")
        self.loans.append((town, day, amount, term))
        return len(self.loans)

    def pay(self, debt, day, name, weight, many=1):
        """Tells that pieces are paid for a debt; it tells what they count."""
        self.enter(debt, day, name, weight, many)
        return self.row_count(debt, (day, name, weight, many))

    def counted(self, debt, day=None):
        """What all payments for a debt up to the end of a day, or all there are, count together."""
        rows = self.payments(debt)
        if day is not None:
            check_day(day)
            rows = [row for row in rows if row[0] <= day]
        return sum([self.row_count(debt, row) for row in rows])

    def left(self, debt, day=None):
        """By how much the payments count less than the amount."""
        counted = self.counted(debt, day)
        return max(self.loan(debt)[2] - counted, 0)

    def over(self, debt, day=None):
        """By how much the payments count more than the amount."""
        counted = self.counted(debt, day)
        return max(counted - self.loan(debt)[2], 0)

    def met(self, debt):
        """The first day at whose end nothing is left of a debt, or None."""
        town, made, amount, term = self.loan(debt)
        if amount == 0:
            return made
        counted = 0
        # No payment counts below 0, so a debt that is met by some payments of a day is met at its end.
        for row in self.payments(debt):
            counted += self.row_count(debt, row)
            if counted >= amount:
                return row[0]
        return None

    def payments(self, debt):
        """The list of the payments (day, name, weight, many) for a debt, by days, those of one day as told."""
        self.loan(debt)
        rows = [row[1:] for row in self.paid_in if row[0] == debt]
        return sorted(rows, key=lambda row: row[0])

    def loan(self, debt):
        """What is told of a debt: (town, day, amount, term)."""
        if not is_within(debt, 1, len(self.loans)):
            raise NoDebt("there is no debt of this number")
        return self.loans[debt - 1]

    def enter(self, debt, day, name, weight, many):
        """Takes a payment into the book."""
        town, made, amount, term = self.loan(debt)
        check_day(day)
        if day < made:
            raise NoDay("a debt is not paid ahead of its day")
        check_weight(weight, kind_named(self.kinds, name).full)
        check_many(many)
        if len(self.paid_in) >= MOST_PAYMENTS:
            raise TooMany("a book has at most 300 payments")
        self.paid_in.append((debt, day, name, weight, many))

    def row_count(self, debt, row):
        """What a payment (day, name, weight, many) for a debt counts, by the calls as they are told by now."""
        town, made, amount, term = self.loan(debt)
        day, name, weight, many = row
        worth = term.worth(self.calls, name, (town, made, day))
        return many * kind_named(self.kinds, name).counted(weight, worth)
