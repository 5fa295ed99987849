"""Ratios of whole numbers."""


def lowest(one, other):
    """The least pair of numbers that stand to each other as these do, both of which are 1 or more."""
    measure, rest = one, other
    while rest > 0:
        # This keeps the greatest number that divides both, until the rest is gone.
        measure, rest = rest, measure % rest
    return one // measure, other // measure
