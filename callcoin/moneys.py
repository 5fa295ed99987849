"""Moneys: amounts of least units, told in parts and written as texts."""

from callcoin.errors import NoAmount, NoMoney, NoName, NoText
from callcoin.names import is_amount, is_figures, is_name, is_within

MOST_UNITS = 6
LEAST_MANY = 2
MOST_MANY = 1000


def check_units(units):
    """Refuses pairs (name, many) that make no money."""
    names = [name for name, many in units]
    if not all([is_name(name) for name in names]):
        raise NoName("a unit's name is none")
    if not 1 <= len(units) <= MOST_UNITS:
        raise NoMoney("a money has 1 to 6 units")
    if not all([is_within(many, LEAST_MANY, MOST_MANY) for name, many in units[:-1]]):
        raise NoMoney("2 to 1000 of the next unit make one of a unit")
    if not is_within(units[-1][1], 1, 1):
        raise NoMoney("the many of the last unit is 1")
    if len(set(names)) < len(names):
        raise NoMoney("two units have one name")


def unit_sizes(units):
    """How many least units make one of each unit, in order."""
    sizes = [1]
    for name, many in reversed(units[:-1]):
        sizes.append(sizes[-1] * many)
    return tuple(reversed(sizes))


def read_pairs(text):
    """The pairs (many, name) of a text, each many 1 or more; any words may stand as names."""
    words = text.split(" ")
    if len(words) & 1:
        raise NoText("figures and names do not come in pairs")
    pairs = []
    for figures, name in zip(words[::2], words[1::2]):
        if not is_figures(figures) or figures == "0":
            raise NoText("figures of 1 or more are due")
        pairs.append((int(figures), name))
    return pairs


class Money:
    """A money: its units, from the greatest to the least, each with how many of the next make one."""

    def __init__(self, units):
        own_units = tuple([(name, many) for name, many in units])
        check_units(own_units)
        self.units = own_units
        self.sizes = unit_sizes(own_units)
        self.places = {name: at for at, (name, many) in enumerate(own_units)}

    def parts(self, amount):
        """How many there are of each unit, in order."""
        if not is_amount(amount):
            raise NoAmount("an amount is a number from 0 to 10 ** 15")
        parts = []
        rest = amount
        for size in self.sizes:
            many, rest = divmod(rest, size)
            parts.append(many)
        return tuple(parts)

    def text(self, amount):
        """The amount as it is written."""
        names = [name for name, many in self.units]
        written = [f"{many} {name}" for many, name in zip(self.parts(amount), names) if many > 0]
        if not written:
            return f"0 {names[-1]}"
        return " ".join(written)

    def amount(self, text):
        """The amount that a text tells."""
        if text == self.text(0):
            return 0
        total = 0
        next_place = 0
        for many, name in read_pairs(text):
            # A strange name has a place ahead of all, so it is refused as one out of order is.
            place = self.places.get(name, -1)
            if place < next_place:
                raise NoText("a unit is strange, told twice or out of order")
            total += many * self.sizes[place]
            next_place = place + 1
        if not is_amount(total):
            raise NoAmount("the text tells more than 10 ** 15")
        return total
