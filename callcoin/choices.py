"""Choices of places."""


def choice_rank(places):
    """By what choices are put in order: how many places there are, then the places."""
    return len(places), places


def choices(many):
    """All rising tuples of places below many, the shortest first, those as long by their places."""
    found = [()]
    for place in range(many):
        found = found + [places + (place,) for places in found]
    return sorted(found, key=choice_rank)
