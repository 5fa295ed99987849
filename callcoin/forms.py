"""Forms of rules of payment: what a rule tells in every book, and books in which two rules part."""

from callcoin.choices import choices
from callcoin.errors import TooMany
from callcoin.names import MOST_WORTH, SMALL_LETTERS
from callcoin.terms import Called, Least, Level, call_place

MOST_CALLS = 6


def calls_within(term):
    """The pairs (when, town) of the Called in a rule, each as often as it stands."""
    if isinstance(term, Level):
        return []
    if isinstance(term, Called):
        return [(term.when, term.town)]
    return [pair for inner in term.terms for pair in calls_within(inner)]


def call_rank(pair):
    """By what calls are put in order: made ones, paid ones, then by days; without a town first, then by names."""
    when, town = pair
    name = "" if town is None else town
    if when == "made":
        return 0, 0, name
    if when == "paid":
        return 1, 0, name
    return 2, when, name


def unlike_calls(terms):
    """The unlike calls of these rules together, in order."""
    unlike = {pair: True for term in terms for pair in calls_within(term)}
    if len(unlike) > MOST_CALLS:
        raise TooMany("there are more than 6 unlike calls")
    return sorted(list(unlike), key=call_rank)


def strength(term, high):
    """The worth of a rule where the calls of a set are worth the most, and the others 0."""
    if isinstance(term, Level):
        return term.level
    if isinstance(term, Called):
        return MOST_WORTH if (term.when, term.town) in high else 0
    inner = [strength(one, high) for one in term.terms]
    return min(inner) if isinstance(term, Least) else max(inner)


def lesser_choices(places):
    """The choices that lack just one of these places."""
    return [places[:at] + places[at + 1:] for at in range(len(places))]


def form(term):
    """The form of a rule: the tuple of pairs (calls, strength) that say what it tells in every book."""
    calls = unlike_calls([term])
    strengths = {}
    pairs = []
    # The choices that lack a place are shorter, so their strengths are there when they are asked for.
    for places in choices(len(calls)):
        high = tuple([calls[place] for place in places])
        strengths[places] = strength(term, high)
        if strengths[places] > max([strengths[lesser] for lesser in lesser_choices(places)], default=0):
            pairs.append((high, strengths[places]))
    return tuple(pairs)


def pair_worth(pair, calls, kind, case):
    """The least of the strength and the worths of the calls of one pair of a form."""
    asked, most = pair
    worths = [most]
    for when, town in asked:
        call_town, day = call_place(when, town, case)
        worths.append(calls.worth(call_town, kind, day))
    return min(worths)


def form_worth(form, calls, kind, case):
    """What every rule of this form tells for the kind, by the book of calls, for a debt with its case."""
    return max([pair_worth(pair, calls, kind, case) for pair in form], default=0)


def parting_case(calls):
    """A case whose town and days, made ahead of paid, are none of those that the calls name."""
    days = [when for when, town in calls]
    towns = [town for when, town in calls]
    # Each call takes away one day at most, so two of so many are left.
    made, paid = [day for day in range(len(calls) + 2) if day not in days][:2]
    town = [letter for letter in SMALL_LETTERS if letter not in towns][0]
    return town, made, paid


def parting_book(calls, high):
    """Rows and a case by which the calls of a set are worth the most, and the others 0."""
    case = parting_case(calls)
    rows = []
    for when, town in calls:
        call_town, day = call_place(when, town, case)
        rows.append((call_town, day, MOST_WORTH if (when, town) in high else 0))
    return rows, case


def parted(one, other):
    """None where both rules have one form, else rows and a case by which they tell unlike worths."""
    calls = unlike_calls([one, other])
    # The strengths of all sets make up the form, so rules of unlike forms part where all calls are highest or 0.
    for places in choices(len(calls)):
        high = tuple([calls[place] for place in places])
        if strength(one, high) != strength(other, high):
            return parting_book(calls, high)
    return None
