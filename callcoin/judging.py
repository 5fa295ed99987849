"""Judging of tables of changers: prices by which no change gains, or changes that come back with more."""

from callcoin.changers import sides
from callcoin.ratios import lowest


def raised(rows, best):
    """The best ways (gained, given, numbers) from all goods, where one row more may stand ahead of those told."""
    better = {good: best[good] for good in best}
    for number, row in enumerate(rows):
        one, given, other, gained = sides(row)
        way_gained, way_given, numbers = best[other]
        product = (gained * way_gained, given * way_given)
        if product[0] * better[one][1] > better[one][0] * product[1]:
            better[one] = (product[0], product[1], (number,) + numbers)
    return better


def round_within(rows, numbers):
    """The first part of a way, told by the numbers of its rows, that comes back to where it began; () if none does."""
    begun = {}
    for at, number in enumerate(numbers):
        one, given, other, gained = sides(rows[number])
        begun[one] = at
        if other in begun:
            return numbers[begun[other]:at + 1]
    return ()


def gain(rows, numbers):
    """What is told of a round that comes back with more: a good, how many of it, and the steps."""
    many = 1
    for number in numbers:
        many *= sides(rows[number])[1]
    # Each row divides what it hands in, since what later rows hand in is still a factor of it.
    steps = []
    there = many
    for number in numbers:
        one, given, other, gained = sides(rows[number])
        lots = there // given
        steps.append((number, lots))
        there = gained * lots
    return "gain", sides(rows[numbers[0]])[0], many, steps


def judged(changers):
    """Prices of all goods by which no change gains, or steps that come back with more of a good."""
    goods = changers.goods()
    best = {good: (1, 1, ()) for good in goods}
    ahead = best
    for turn in range(len(goods)):
        ahead = best
        best = raised(changers.rows, best)
    for good in goods:
        # A way that is still better has as many rows as there are goods, so it passes a good twice; and what it does
        # in between gains, since without that it is one of the ways told ahead.
        if best[good] != ahead[good]:
            return gain(changers.rows, round_within(changers.rows, best[good][2]))
    return "fair", {good: lowest(best[good][0], best[good][1]) for good in goods}
