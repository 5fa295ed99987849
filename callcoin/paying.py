"""Payments: choices of worths that come near what is due."""

from callcoin.checks import check_amount, check_worth
from callcoin.choices import choices
from callcoin.errors import TooMany

MOST_WORTHS = 12
MOST_SUMS = 1000


def total_of(worths, places):
    """The total of a choice of worths."""
    return sum([worths[place] for place in places])


def sums_below(worths, due):
    """The rising list of the totals of all choices that are below due, each once."""
    for worth in worths:
        check_worth(worth)
    check_amount(due)
    if len(worths) > MOST_WORTHS:
        raise TooMany("there are more than 12 worths")
    totals = [total_of(worths, places) for places in choices(len(worths))]
    sums = sorted(set([total for total in totals if total < due]))
    if len(sums) > MOST_SUMS:
        raise TooMany("there are more than 1000 totals below due")
    return sums


def least_over(worths, due):
    """The choice with the least total that is not below due, or what there is where that is short."""
    # Asked for its refusals alone: a payment is refused where the sums below due are.
    sums_below(worths, due)
    if sum(worths) < due:
        return "short", sum(worths)
    best = ()
    best_total = sum(worths) + 1
    # Choices come with the fewest places first, then the least tuples, so the first of a total is the one to tell.
    for places in choices(len(worths)):
        total = total_of(worths, places)
        if due <= total < best_total:
            best, best_total = places, total
    return "paid", best, best_total
