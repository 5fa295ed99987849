"""Payments with change: pieces handed over, and pieces handed back."""

from callcoin.checks import check_amount, check_worth
from callcoin.choices import choices
from callcoin.errors import TooMany
from callcoin.paying import total_of

MOST_SIDE = 8


def first_choices(worths):
    """A dict from the totals of all choices to the first choice of each: the shortest one, of these the least."""
    found = {}
    for places in choices(len(worths)):
        found.setdefault(total_of(worths, places), places)
    return found


def pair_rank(pair):
    """By what pairs of choices are put in order: how many places they have together, how many of mine, the places."""
    places, back = pair
    return len(places) + len(back), len(places), places, back


def check_sides(mine, theirs, due):
    """Refuses worths and dues of which no payment is told."""
    for worth in mine:
        check_worth(worth)
    for worth in theirs:
        check_worth(worth)
    check_amount(due)
    if len(mine) > MOST_SIDE or len(theirs) > MOST_SIDE:
        raise TooMany("there are more than 8 worths on a side")


def with_change(mine, theirs, due):
    """The choices of mine and of theirs that are apart by just the due, or how near to it two choices come."""
    check_sides(mine, theirs, due)
    # Of one total the first choice is best on either side, whatever the other side hands over.
    given = first_choices(mine)
    returned = first_choices(theirs)
    pairs = [(given[total], returned[total - due]) for total in given if total - due in returned]
    if pairs:
        places, back = min(pairs, key=pair_rank)
        return "paid", places, back
    gaps = [total - less for total in given for less in returned]
    # Choices of no places are apart by 0, and a due of 0 is paid so; hence there is always one below.
    below = max([gap for gap in gaps if gap < due])
    above = min([gap for gap in gaps if gap > due], default=None)
    return "none", below, above
