"""Purses: pieces of some kinds, by their weights."""

from callcoin.checks import check_worth
from callcoin.errors import Lacking, NoKinds, NoMany, TooMany
from callcoin.kinds import check_weight, kind_named, own_kinds
from callcoin.names import is_within

MOST_MANY = 1000000
MOST_PIECES = 12


def check_many(many):
    """Refuses what is no number of pieces that are put, taken or clipped at once."""
    if not is_within(many, 1, MOST_MANY):
        raise NoMany("from 1 to 1000000 pieces are handled at once")


class Purse:
    """A purse for pieces of some kinds, at first empty."""

    def __init__(self, kinds):
        self.kinds = own_kinds(kinds)
        # How many pieces there are, by (name, weight); what is not there has no entry.
        self.stock = {}

    def __eq__(self, other):
        return isinstance(other, Purse) and self.kinds == other.kinds and self.stock == other.stock

    def __len__(self):
        return len(self.stock)

    def put(self, name, weight, many=1):
        """Puts so many pieces in."""
        self.check_piece(name, weight)
        check_many(many)
        self.change(name, weight, many)

    def take(self, name, weight, many=1):
        """Takes so many pieces out."""
        self.check_piece(name, weight)
        check_many(many)
        self.check_there(name, weight, many)
        self.change(name, weight, -many)

    def clip(self, name, weight, lesser, many=1):
        """Makes so many pieces weigh less; it tells the weight clipped off of all of them together."""
        self.check_piece(name, weight)
        check_weight(lesser, weight - 1)
        check_many(many)
        self.check_there(name, weight, many)
        self.change(name, weight, -many)
        self.change(name, lesser, many)
        return (weight - lesser) * many

    def pour(self, other):
        """Brings all pieces of the other purse into this one."""
        if self.kinds != other.kinds:
            raise NoKinds("the other purse is for other kinds")
        # The other is emptied first, so that a purse poured into itself has just its own pieces again.
        poured = other.held()
        other.stock = {}
        for name, weight, many in poured:
            self.change(name, weight, many)

    def held(self):
        """The list of tuples (name, weight, many) of what is there, by the order of kinds, the heavier ones first."""
        rows = []
        for kind in self.kinds:
            weights = [weight for name, weight in self.stock if name == kind.name]
            for weight in sorted(weights, reverse=True):
                rows.append((kind.name, weight, self.stock[kind.name, weight]))
        return rows

    def weight(self):
        """The weight of all pieces."""
        return sum([weight * many for name, weight, many in self.held()])

    def worth(self, worths):
        """What all pieces count together, where the kinds are worth so much."""
        return sum([count * many for name, weight, many, count in self.reckoned(worths)])

    def pieces(self, worths):
        """The list of tuples (name, weight, worth), one for each piece, worth being what it counts."""
        rows = self.reckoned(worths)
        if sum([many for name, weight, many, count in rows]) > MOST_PIECES:
            raise TooMany("there are more than 12 pieces")
        return [(name, weight, count) for name, weight, many, count in rows for piece in range(many)]

    def check_piece(self, name, weight):
        """Refuses what is no kind of the purse, or no weight of its pieces."""
        check_weight(weight, kind_named(self.kinds, name).full)

    def check_there(self, name, weight, many):
        """Refuses to go on where fewer pieces are there."""
        there = self.stock.get((name, weight), 0)
        if there < many:
            raise Lacking(name, many - there)

    def change(self, name, weight, more):
        """Brings the number of these pieces up, or down where more is below 0."""
        many = self.stock.get((name, weight), 0) + more
        if many > 0:
            self.stock[name, weight] = many
        else:
            del self.stock[name, weight]

    def reckoned(self, worths):
        """What is held, with what one piece counts behind it."""
        for worth in worths.values():
            check_worth(worth)
        rows = []
        for name, weight, many in self.held():
            count = kind_named(self.kinds, name).counted(weight, worths.get(name, 0))
            rows.append((name, weight, many, count))
        return rows
