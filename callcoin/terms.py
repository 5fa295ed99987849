"""Rules of payment: what a piece is worth for a debt."""

from callcoin.checks import check_day, check_name, check_worth
from callcoin.errors import NoTerm

LEAST_TERMS = 2
MOST_TERMS = 8
MOST_SIZE = 60
MOST_DEPTH = 8


def call_place(when, town, case):
    """The town and the day of a call, for a debt with its case (town, made, paid)."""
    debt_town, made, paid = case
    days = {"made": made, "paid": paid}
    call_town = debt_town if town is None else town
    return call_town, days.get(when, when)


def joined_size(terms):
    """How many rules there are in a rule made of these, itself counted, each as often as it stands."""
    return 1 + sum([term.size for term in terms])


def joined_depth(terms):
    """How deep a rule made of these is."""
    return 1 + max([term.depth for term in terms])


def check_joined(terms):
    """Refuses rules that do not make one rule together."""
    if not LEAST_TERMS <= len(terms) <= MOST_TERMS:
        raise NoTerm("2 to 8 rules make one together")
    if joined_size(terms) > MOST_SIZE:
        raise NoTerm("a rule has at most 60 rules in it, itself counted")
    if joined_depth(terms) > MOST_DEPTH:
        raise NoTerm("a rule is at most 8 deep")


def joined_told(word, terms):
    """What a rule made of these tells."""
    return tuple([word] + [term.told() for term in terms])


def joined_text(word, terms):
    """A rule made of these as it is written."""
    written = ", ".join([term.text() for term in terms])
    return f"{word}({written})"


class Term:
    """A rule of payment; each of its kinds has its own of what is listed here."""

    def worth(self, calls, kind, case):
        """What a piece of the kind is worth by the book of calls, for a debt with its case (town, made, paid)."""
        raise NotImplementedError("each kind of rule has its own worth")

    def told(self):
        """The rule as a tuple, from which term_of makes an equal one."""
        raise NotImplementedError("each kind of rule has its own told")

    def text(self):
        """The rule as it is written."""
        raise NotImplementedError("each kind of rule has its own text")


class Level(Term):
    """A worth that is always the same."""

    def __init__(self, level):
        check_worth(level)
        self.level = level
        self.size = 1
        self.depth = 1

    def __eq__(self, other):
        return isinstance(other, Level) and self.level == other.level

    def __str__(self):
        return str(self.text())

    def worth(self, calls, kind, case):
        """The level."""
        return self.level

    def told(self):
        """The rule as a tuple."""
        return ("level", self.level)

    def text(self):
        """The rule as it is written."""
        return f"at {self.level}"


class Called(Term):
    """The call of the day when the debt was made, when it is paid, or of a day told, in a town or the debt's own."""

    def __init__(self, when, town=None):
        if when not in ("made", "paid"):
            check_day(when)
        if town is not None:
            check_name(town)
        self.when = when
        self.town = town
        self.size = 1
        self.depth = 1

    def __eq__(self, other):
        return isinstance(other, Called) and self.when == other.when and self.town == other.town

    def __str__(self):
        return str(self.text())

    def worth(self, calls, kind, case):
        """The worth of the kind by the book, at the call's town and day."""
        town, day = call_place(self.when, self.town, case)
        return calls.worth(town, kind, day)

    def told(self):
        """The rule as a tuple."""
        return ("called", self.when, self.town)

    def text(self):
        """The rule as it is written."""
        when = self.when if self.when in ("made", "paid") else f"day {self.when}"
        return when if self.town is None else f"{when} in {self.town}"


class Least(Term):
    """The least of what its rules tell."""

    def __init__(self, terms):
        own_terms = tuple(terms)
        check_joined(own_terms)
        self.terms = own_terms
        self.size = joined_size(own_terms)
        self.depth = joined_depth(own_terms)

    def __eq__(self, other):
        return isinstance(other, Least) and self.terms == other.terms

    def __str__(self):
        return str(self.text())

    def worth(self, calls, kind, case):
        """The least of the worths of its rules."""
        return min([term.worth(calls, kind, case) for term in self.terms])

    def told(self):
        """The rule as a tuple."""
        return joined_told("least", self.terms)

    def text(self):
        """The rule as it is written."""
        return joined_text("least", self.terms)


class Greatest(Term):
    """The greatest of what its rules tell."""

    def __init__(self, terms):
        own_terms = tuple(terms)
        check_joined(own_terms)
        self.terms = own_terms
        self.size = joined_size(own_terms)
        self.depth = joined_depth(own_terms)

    def __eq__(self, other):
        return isinstance(other, Greatest) and self.terms == other.terms

    def __str__(self):
        return str(self.text())

    def worth(self, calls, kind, case):
        """The greatest of the worths of its rules."""
        return max([term.worth(calls, kind, case) for term in self.terms])

    def told(self):
        """The rule as a tuple."""
        return joined_told("greatest", self.terms)

    def text(self):
        """The rule as it is written."""
        return joined_text("greatest", self.terms)


def term_of(told):
    """The rule that tells this tuple; the inner rules are made first, from the left."""
    word = told[0]
    if word == "level":
        return Level(told[1])
    if word == "called":
        return Called(told[1], told[2])
    if word not in ("least", "greatest"):
        raise NoTerm("there is no such kind of rule")
    terms = [term_of(inner) for inner in told[1:]]
    return Least(terms) if word == "least" else Greatest(terms)
