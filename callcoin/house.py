"""Houses: people with purses, and what they did, told of days in any order."""

from callcoin.checks import check_day, check_name, check_names
from callcoin.deeds import check_form, check_parts, check_person, standing_of
from callcoin.errors import NoBook, NoPeople, TooMany
from callcoin.kinds import kind_named, own_kinds
from callcoin.names import MOST_DAY, is_within

MOST_PEOPLE = 8
MOST_TELLINGS = 100


def own_people(people):
    """A tuple of these people, who are 1 to 8 unlike names."""
    own = tuple(people)
    check_names(own)
    if not 1 <= len(own) <= MOST_PEOPLE:
        raise NoPeople("a house has 1 to 8 people")
    if len(set(own)) < len(own):
        raise NoPeople("two people have one name")
    return own


class House:
    """A house: deeds are told one by one, and done by days, those of one day as told."""

    def __init__(self, kinds, people):
        self.kinds = own_kinds(kinds)
        self.people = own_people(people)
        # Each a tuple (day, deed), as told.
        self.rows = []

    def tell(self, day, deed):
        """Tells what is done on a day; it tells the number of the telling."""
        check_day(day)
        own_deed = tuple(deed)
        check_form(own_deed)
        if len(self.rows) >= MOST_TELLINGS:
            raise TooMany("a house has at most 100 tellings")
        check_parts(own_deed, self.kinds, self.people)
        rows = self.rows + [(day, own_deed)]
        # All are done anew, since one that is told late may leave too little for a later one.
        standing_of(self.kinds, self.people, rows, MOST_DAY)
        self.rows = rows
        return len(rows)

    def held(self, who, day=None, known=None):
        """What the purse of who holds."""
        check_person(who, self.people)
        return self.standing(day, known).purses[who].held()

    def there(self, kind, day=None, known=None):
        """How many pieces of the kind were struck less how many were brought."""
        kind_named(self.kinds, kind)
        return self.standing(day, known).struck[kind]

    def clipped(self, kind, day=None, known=None):
        """The weight clipped off the pieces of the kind."""
        kind_named(self.kinds, kind)
        return self.standing(day, known).clippings[kind]

    def left(self, debt, day=None, known=None):
        """By how much the payments for a debt count less than its amount."""
        standing = self.standing(day, known)
        who, whom, entry = standing.loan_of(debt)
        return standing.debts.left(entry)

    def over(self, debt, day=None, known=None):
        """By how much the payments for a debt count more than its amount."""
        standing = self.standing(day, known)
        who, whom, entry = standing.loan_of(debt)
        return standing.debts.over(entry)

    def owed(self, who, day=None, known=None):
        """The rising list of the numbers of the debts that who owes and of which something is left."""
        check_person(who, self.people)
        standing = self.standing(day, known)
        numbers = []
        for number in sorted(standing.lent):
            lender, ower, entry = standing.lent[number]
            if ower == who and standing.debts.left(entry) > 0:
                numbers.append(number)
        return numbers

    def worth(self, who, town, day, known=None):
        """What the pieces of who count together by the calls of that day in the town."""
        purse, worths = self.reckoning(who, town, day, known)
        return purse.worth(worths)

    def pieces(self, who, town, day, known=None):
        """The pieces of who one by one, with what each counts by the calls of that day in the town."""
        purse, worths = self.reckoning(who, town, day, known)
        return purse.pieces(worths)

    def dead(self, town, day, known=None):
        """The list of (who, name, weight, many) of pieces whose call in the town is 0 on that day."""
        check_name(town)
        check_day(day)
        standing = self.standing(day, known)
        worths = self.worths(standing, town, day)
        return [(who,) + row for who in self.people for row in standing.purses[who].held() if worths[row[0]] == 0]

    def standing(self, day, known):
        """How the house stands at the end of a day, or of all, by the first so many tellings, or by all."""
        if day is not None:
            check_day(day)
        if known is not None and not is_within(known, 0, len(self.rows)):
            raise NoBook("the house has not so many tellings")
        last_day = MOST_DAY if day is None else day
        return standing_of(self.kinds, self.people, self.rows[:known], last_day)

    def worths(self, standing, town, day):
        """A dict from the names of the kinds to their calls in the town on that day."""
        return {kind.name: standing.calls.worth(town, kind.name, day) for kind in self.kinds}

    def reckoning(self, who, town, day, known):
        """The purse of who at the end of a day, and the worths of the kinds in the town on that day."""
        check_person(who, self.people)
        check_name(town)
        check_day(day)
        standing = self.standing(day, known)
        return standing.purses[who], self.worths(standing, town, day)
