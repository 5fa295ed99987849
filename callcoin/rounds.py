"""Rows for tables of changers: kinds changed in a town at its calls, and carried between towns."""

from callcoin.checks import check_day, check_names
from callcoin.errors import NoKinds, NoRow
from callcoin.ratios import lowest

MOST_NAMES = 4


def check_kinds(kinds):
    """Refuses more than 4 kinds, or kinds alike."""
    if len(kinds) > MOST_NAMES:
        raise NoKinds("there are at most 4 kinds")
    if len(set(kinds)) < len(kinds):
        raise NoKinds("a kind stands twice")


def at_calls(calls, town, kinds, day):
    """Rows by which each kind is handed in for each other one in the town, as they are worth there on that day."""
    check_names([town] + list(kinds))
    check_day(day)
    check_kinds(kinds)
    worths = {kind: calls.worth(town, kind, day) for kind in kinds}
    passing = [kind for kind in kinds if worths[kind] > 0]
    rows = []
    for one in passing:
        for other in passing:
            if one != other:
                # The fewer pieces, the more each is worth.
                gained, given = lowest(worths[one], worths[other])
                rows.append((town, one, given, town, other, gained))
    return rows


def roads(one, other, kinds):
    """Rows by which one piece of each kind goes from the one town to the other, and back."""
    check_names([one, other] + list(kinds))
    check_kinds(kinds)
    if one == other:
        raise NoRow("both towns are one")
    rows = []
    for kind in kinds:
        rows.append((one, kind, 1, other, kind, 1))
        rows.append((other, kind, 1, one, kind, 1))
    return rows
