"""Bridges: amounts of one money reckoned in another, with what is left over."""

from callcoin.checks import check_amount
from callcoin.errors import NoAmount, NoBridge
from callcoin.names import is_amount, is_number, is_within

MOST_SIDE = 1000000


class Bridge:
    """A bridge between two moneys: `given` least units of the one are worth `gained` of the other."""

    def __init__(self, one, other, given, gained):
        if not is_within(given, 1, MOST_SIDE) or not is_within(gained, 1, MOST_SIDE):
            raise NoBridge("given and gained are numbers from 1 to 1000000")
        self.one = one
        self.other = other
        self.given = given
        self.gained = gained

    def there(self, amount):
        """The pair (whole, rest) that an amount of the one leads to."""
        check_amount(amount)
        return divmod(amount * self.gained, self.given)

    def back(self, whole, rest):
        """The amount of the one that leads to this whole and rest."""
        if not is_number(whole) or not is_number(rest):
            raise NoAmount("a whole and a rest are numbers")
        amount, over = divmod(whole * self.given + rest, self.gained)
        if not 0 <= rest < self.given or over > 0 or not is_amount(amount):
            raise NoAmount("no amount leads there")
        return amount

    def all_there(self, amounts):
        """The list of wholes of a row of amounts, the rest of each going on to the next, and the last rest."""
        for amount in amounts:
            check_amount(amount)
        wholes = []
        rest = 0
        for amount in amounts:
            whole, rest = divmod(amount * self.gained + rest, self.given)
            wholes.append(whole)
        return wholes, rest
