"""Rules of payment, cases and books of many sorts, for the tests of rules, texts and forms."""

from callcoin.calls import Calls
from callcoin.terms import Called, Greatest, Least, Level

WHENS = ("made", "paid", 0, 3, 5, 9999)
TOWNS = (None, "york", "bath")
CASES = (("york", 0, 0), ("york", 2, 4), ("bath", 3, 3), ("hull", 5, 9999), ("york", 6, 1))


def nest(depth, inner=None):
    """A rule that is so deep."""
    term = Level(1) if inner is None else inner
    for turn in range(depth - 1):
        term = Least([term, Level(2)]) if turn % 2 == 0 else Greatest([Level(3), term])
    return term


def wide(many):
    """A rule of three deep with just so many rules in it, itself counted, from 11 to 60."""
    inner = []
    left = many - 1
    while left > 0:
        # No rule has two rules in it, itself counted.
        size = min(left, 9) if left > 2 else 1
        inner.append(Level(1) if size == 1 else Greatest([Level(5)] * (size - 1)))
        left -= size
    return Least(inner)


def chance_term(chance, calls, depth):
    """A rule of at most such a depth, of some of these calls."""
    if depth == 1 or chance.random() < 0.2:
        if chance.random() < 0.3:
            return Level(chance.choice((0, 1, 30, 999999, 1000000)))
        return Called(*chance.choice(calls))
    terms = [chance_term(chance, calls, depth - 1) for turn in range(chance.choice((2, 2, 3)))]
    return Least(terms) if chance.random() < 0.5 else Greatest(terms)


def chance_book(chance, kind="groat"):
    """A book of calls for a kind."""
    calls = Calls()
    for turn in range(chance.randrange(25)):
        town = chance.choice(("york", "bath", "hull"))
        day = chance.choice((0, 1, 2, 3, 4, 5, 6, 9998, 9999))
        calls.tell(town, kind, day, chance.choice((0, 1, 29, 30, 31, 500, 999999, 1000000)))
    return calls
