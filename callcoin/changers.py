"""Tables of changers: so many of one good handed in for so many of another."""

from callcoin.checks import check_names
from callcoin.errors import Lacking, NoMany, NoRow, NoStock
from callcoin.names import is_number, is_within

MOST_ROWS = 40
MOST_GOODS = 16
MOST_MANY = 1000000


def sides(row):
    """What a row says: the good handed in and how many, the good got for it and how many."""
    town, kind, given, other_town, other_kind, gained = row
    return (town, kind), given, (other_town, other_kind), gained


def goods_of(rows):
    """The tuple of the goods in these rows, each once, in the order in which they stand first."""
    found = {}
    for row in rows:
        one, given, other, gained = sides(row)
        found[one] = True
        found[other] = True
    return tuple(found)


def check_rows(rows):
    """Refuses rows that make no table."""
    for row in rows:
        one, given, other, gained = sides(row)
        check_names(one + other)
    # What else may be wrong with a row comes behind the names of all.
    for row in rows:
        one, given, other, gained = sides(row)
        if not is_within(given, 1, MOST_MANY) or not is_within(gained, 1, MOST_MANY):
            raise NoRow("from 1 to 1000000 are handed in, and got")
        if one == other:
            raise NoRow("a row leads from a good to itself")
    if not 1 <= len(rows) <= MOST_ROWS:
        raise NoRow("a table has 1 to 40 rows")
    if len(goods_of(rows)) > MOST_GOODS:
        raise NoRow("a table has at most 16 goods")


class Changers:
    """A table of changers: whoever hands in the first of a row, gets the second."""

    def __init__(self, rows):
        own_rows = tuple([tuple(row) for row in rows])
        check_rows(own_rows)
        self.rows = own_rows

    def goods(self):
        """The goods of the table, each once, in the order in which they stand first."""
        return goods_of(self.rows)

    def changed(self, stock, number, lots=1):
        """What there is of a stock of goods, when the row of this number has been done so many times."""
        self.check_stock(stock)
        if not is_within(number, 0, len(self.rows) - 1):
            raise NoRow("the table has no row of this number")
        if not is_number(lots) or lots < 1:
            raise NoMany("a row is done once or more")
        one, given, other, gained = sides(self.rows[number])
        after = {good: stock.get(good, 0) for good in self.goods()}
        after[one] -= given * lots
        after[other] += gained * lots
        if after[one] < 0:
            raise Lacking(one[1], -after[one])
        return {good: after[good] for good in after if after[good] > 0}

    def check_stock(self, stock):
        """Refuses a stock of other goods, or of what is no number from 0 on."""
        goods = self.goods()
        for good, many in stock.items():
            if good not in goods:
                raise NoStock("the table has not this good")
            if not is_number(many) or many < 0:
                raise NoStock("of a good there is a number from 0 on")
