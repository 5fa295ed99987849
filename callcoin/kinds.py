"""Kinds of pieces."""

from callcoin.checks import check_name, check_worth
from callcoin.errors import NoKinds, NoName, NoWeight
from callcoin.names import is_within

MOST_FULL = 1000
MOST_KINDS = 12


def check_weight(weight, most):
    """Refuses what is no weight from 1 to the most that it may be here."""
    if not is_within(weight, 1, most):
        raise NoWeight("it is no weight that a piece can have here")


class Kind:
    """A kind of piece: its name, its full weight, and the least weight that counts as whole."""

    def __init__(self, name, full, least):
        check_name(name)
        check_weight(full, MOST_FULL)
        check_weight(least, full)
        self.name = name
        self.full = full
        self.least = least

    def __eq__(self, other):
        if not isinstance(other, Kind):
            return False
        return (self.name, self.full, self.least) == (other.name, other.full, other.least)

    def counted(self, weight, worth):
        """What a piece of this weight counts, where a whole one is worth so much."""
        check_weight(weight, self.full)
        check_worth(worth)
        if weight >= self.least:
            return worth
        return worth * weight // self.full


def own_kinds(kinds):
    """A tuple of these kinds, which are 1 to 12 with unlike names."""
    own = tuple(kinds)
    if not 1 <= len(own) <= MOST_KINDS:
        raise NoKinds("there are 1 to 12 kinds")
    names = [kind.name for kind in own]
    if len(set(names)) < len(names):
        raise NoKinds("two kinds have one name")
    return own


def kind_named(kinds, name):
    """The one of these kinds that has this name."""
    for kind in kinds:
        if kind.name == name:
            return kind
    raise NoName("there is no kind of this name here")
