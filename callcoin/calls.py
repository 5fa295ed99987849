"""Books of calls: what kinds of pieces are worth in towns, by days, and as known at any telling."""

from callcoin.checks import check_day, check_name, check_worth
from callcoin.errors import NoBook, TooMany
from callcoin.names import is_within

MOST_TELLINGS = 300


class Calls:
    """A book of calls, told one by one, of days in any order."""

    def __init__(self):
        self.rows = []

    def __len__(self):
        return len(self.rows)

    def tell(self, town, kind, day, worth):
        """Tells that the kind is worth this much in the town from that day on; it tells the telling's number."""
        check_name(town)
        check_name(kind)
        check_day(day)
        check_worth(worth)
        if len(self.rows) >= MOST_TELLINGS:
            raise TooMany("a book of calls has at most 300 tellings")
        self.rows.append((town, kind, day, worth))
        return len(self.rows)

    def worth(self, town, kind, day, known=None):
        """What the kind is worth in the town on that day, by the first so many tellings."""
        check_name(town)
        check_name(kind)
        check_day(day)
        worths = self.worths_by_day(town, kind, known)
        told_days = [told for told in worths if told <= day]
        return worths[max(told_days)] if told_days else 0

    def turns(self, town, kind, known=None):
        """The rising list of pairs (day, worth) of the days on which the worth is another one than ahead of them."""
        check_name(town)
        check_name(kind)
        worths = self.worths_by_day(town, kind, known)
        turns = []
        ahead = 0
        for day in sorted(worths):
            if worths[day] != ahead:
                turns.append((day, worths[day]))
            ahead = worths[day]
        return turns

    def tellings(self, known=None):
        """The list of the first so many tellings (town, kind, day, worth), as told."""
        if known is None:
            return list(self.rows)
        if not is_within(known, 0, len(self.rows)):
            raise NoBook("the book has not so many tellings")
        return self.rows[:known]

    def worths_by_day(self, town, kind, known):
        """A dict from the days told for town and kind to the worth last told for each."""
        worths = {}
        for told_town, told_kind, day, worth in self.tellings(known):
            if told_town == town and told_kind == kind:
                worths[day] = worth
        return worths
