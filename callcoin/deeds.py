"""Deeds of a house: what they are made of, and what they do."""

from callcoin.calls import Calls
from callcoin.checks import check_amount, check_name, check_worth
from callcoin.debts import Debts
from callcoin.errors import NoDebt, NoDeed, NoName, Shut
from callcoin.kinds import check_weight, kind_named
from callcoin.names import is_number
from callcoin.purses import Purse, check_many

PARTS = {
    "call": ("town", "kind", "worth"),
    "strike": ("who", "kind", "many"),
    "bring": ("who", "kind", "weight", "many"),
    "shut": ("kind",),
    "give": ("who", "whom", "kind", "weight", "many"),
    "clip": ("who", "kind", "weight", "lesser", "many"),
    "lend": ("who", "whom", "town", "amount", "term"),
    "pay": ("debt", "kind", "weight", "many"),
}


def check_form(deed):
    """Refuses a tuple that is none of the deeds."""
    if len(deed) == 0 or not isinstance(deed[0], str) or deed[0] not in PARTS:
        raise NoDeed("a deed begins with one of eight words")
    if len(deed) != 1 + len(PARTS[deed[0]]):
        raise NoDeed("a deed of this word has another length")


def check_person(who, people):
    """Refuses who is none of the people."""
    if who not in people:
        raise NoName("there is nobody of this name in the house")


def check_part(part, value, people):
    """Refuses a part of a deed, of those that are looked at by themselves."""
    if part in ("who", "whom"):
        check_person(value, people)
    elif part == "town":
        check_name(value)
    elif part == "many":
        check_many(value)
    elif part == "worth":
        check_worth(value)
    elif part == "amount":
        check_amount(value)


def check_parts(deed, kinds, people):
    """Refuses a deed for the first of its parts that can't be."""
    most_weight = 0
    for part, value in zip(PARTS[deed[0]], deed[1:]):
        if part == "kind":
            most_weight = kind_named(kinds, value).full
        elif part in ("weight", "lesser"):
            check_weight(value, most_weight)
            # A lesser weight stands behind the weight that it is less than.
            most_weight = value - 1
        else:
            check_part(part, value, people)


class Standing:
    """How a house stands behind some deeds."""

    def __init__(self, kinds, people):
        self.kinds = kinds
        self.purses = {who: Purse(kinds) for who in people}
        self.calls = Calls()
        self.debts = Debts(self.calls, kinds)
        # From the numbers of tellings to (who lent, who owes, the number in the book of debts).
        self.lent = {}
        self.closed = {}
        # How many pieces of each kind were struck less those brought, and the weight clipped off.
        self.struck = {kind.name: 0 for kind in kinds}
        self.clippings = {kind.name: 0 for kind in kinds}

    def loan_of(self, number):
        """Who lent, who owes, and the number in the book of debts, of the debt that bears this number."""
        # True and False would be found as 1 and 0.
        if not is_number(number) or number not in self.lent:
            raise NoDebt("no such debt is lent by then")
        return self.lent[number]

    def check_unshut(self, kind):
        """Refuses a kind that is shut."""
        if kind in self.closed:
            raise Shut("nothing of this kind is struck or brought any more")


def strike(standing, number, day, parts):
    """New pieces of full weight for who."""
    who, kind, many = parts
    standing.check_unshut(kind)
    standing.purses[who].put(kind, kind_named(standing.kinds, kind).full, many)
    standing.struck[kind] += many


def bring(standing, number, day, parts):
    """Pieces go to the mint and are no more."""
    who, kind, weight, many = parts
    standing.check_unshut(kind)
    standing.purses[who].take(kind, weight, many)
    standing.struck[kind] -= many


def shut(standing, number, day, parts):
    """From now on nothing of the kind is struck or brought."""
    standing.closed[parts[0]] = True


def hand(standing, who, whom, piece):
    """Brings pieces (kind, weight, many) from one purse to another, or back into the same."""
    kind, weight, many = piece
    standing.purses[who].take(kind, weight, many)
    standing.purses[whom].put(kind, weight, many)


def give(standing, number, day, parts):
    """Pieces go from who to whom."""
    hand(standing, parts[0], parts[1], parts[2:])


def clip(standing, number, day, parts):
    """Pieces of who weigh less from now on."""
    who, kind, weight, lesser, many = parts
    standing.clippings[kind] += standing.purses[who].clip(kind, weight, lesser, many)


def lend(standing, number, day, parts):
    """From now on whom owes who."""
    who, whom, town, amount, term = parts
    standing.lent[number] = (who, whom, standing.debts.lend(town, day, amount, term))


def pay(standing, number, day, parts):
    """The one who owes hands pieces to the one who lent."""
    who, whom, entry = standing.loan_of(parts[0])
    kind, weight, many = parts[1:]
    hand(standing, whom, who, parts[1:])
    standing.debts.enter(entry, day, kind, weight, many)


DOINGS = {"strike": strike, "bring": bring, "shut": shut, "give": give, "clip": clip, "lend": lend, "pay": pay}


def standing_of(kinds, people, tellings, last_day):
    """How a house stands when those of its tellings (day, deed) are done that are not behind the last day."""
    standing = Standing(kinds, people)
    rows = []
    for number, (day, deed) in enumerate(tellings, start=1):
        # Calls are for their whole days, and all that are known count, so they stand ahead of what is done.
        if deed[0] == "call":
            town, kind, worth = deed[1:]
            standing.calls.tell(town, kind, day, worth)
        elif day <= last_day:
            rows.append((day, number, deed))
    for day, number, deed in sorted(rows, key=lambda row: row[0]):
        action = DOINGS[deed[0]]
        action(standing, number, day, deed[1:])
    return standing
