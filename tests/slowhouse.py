"""A slow reading of points 28 to 30, over plain dicts, and houses told at random."""

from callcoin.calls import Calls
from callcoin.kinds import Kind

KINDS = (Kind("groat", 40, 36), Kind("penny", 10, 9))
FULL = {kind.name: kind.full for kind in KINDS}
PEOPLE = ("ann", "bob", "cid")


class Undone(Exception):
    """A deed that can't be done, with what it is refused with."""


class SlowHouse:
    """What is there when the first so many tellings (day, deed) are done up to the end of a day."""

    def __init__(self, tellings, last=9999):
        self.purses = {who: {} for who in PEOPLE}
        self.loans = {}
        self.paid = []
        self.closed = set()
        self.there = {name: 0 for name in FULL}
        self.clipped = {name: 0 for name in FULL}
        self.calls = Calls()
        for day, deed in tellings:
            if deed[0] == "call":
                self.calls.tell(deed[1], deed[2], day, deed[3])
        for day in range(last + 1) if tellings else ():
            for number, (told_day, deed) in enumerate(tellings, start=1):
                if told_day == day:
                    self.do(number, day, deed)

    def move(self, who, name, weight, many):
        purse = self.purses[who]
        there = purse.get((name, weight), 0)
        if there + many < 0:
            raise Undone("Lacking", name, -many - there)
        purse[name, weight] = there + many

    def do(self, number, day, deed):
        word, parts = deed[0], deed[1:]
        if word in ("strike", "bring") and parts[1] in self.closed:
            raise Undone("Shut")
        if word == "strike":
            self.move(parts[0], parts[1], FULL[parts[1]], parts[2])
            self.there[parts[1]] += parts[2]
        elif word == "bring":
            self.move(parts[0], parts[1], parts[2], -parts[3])
            self.there[parts[1]] -= parts[3]
        elif word == "shut":
            self.closed.add(parts[0])
        elif word == "give":
            self.move(parts[0], parts[2], parts[3], -parts[4])
            self.move(parts[1], parts[2], parts[3], parts[4])
        elif word == "clip":
            self.move(parts[0], parts[1], parts[2], -parts[4])
            self.move(parts[0], parts[1], parts[3], parts[4])
            self.clipped[parts[1]] += (parts[2] - parts[3]) * parts[4]
        elif word == "lend":
            self.loans[number] = (day,) + parts
        elif word == "pay":
            if parts[0] not in self.loans:
                raise Undone("NoDebt")
            made, who, whom = self.loans[parts[0]][:3]
            self.move(whom, parts[1], parts[2], -parts[3])
            self.move(who, parts[1], parts[2], parts[3])
            self.paid.append((day,) + parts)

    def held(self, who):
        rows = [(name, weight, many) for (name, weight), many in self.purses[who].items() if many]
        return sorted(rows, key=lambda row: (list(FULL).index(row[0]), -row[1]))

    def count(self, name, weight, worth):
        return {kind.name: kind for kind in KINDS}[name].counted(weight, worth)

    def balance(self, debt):
        """What the payments count less the amount."""
        made, who, whom, town, amount, term = self.loans[debt]
        counts = [many * self.count(name, weight, term.worth(self.calls, name, (town, made, day)))
                  for day, number, name, weight, many in self.paid if number == debt]
        return sum(counts) - amount

    def owed(self, who):
        return sorted(debt for debt, loan in self.loans.items() if loan[2] == who and self.balance(debt) < 0)

    def worth(self, who, town, day):
        return sum(many * self.count(name, weight, self.calls.worth(town, name, day)) for name, weight, many in self.held(who))

    def dead(self, town, day):
        return [(who,) + row for who in PEOPLE for row in self.held(who) if self.calls.worth(town, row[0], day) == 0]


def chance_deed(chance, terms, debts):
    """A deed of well-formed parts, which may or may not be done; debts are the numbers of those lent."""
    who, whom, name = chance.choice(PEOPLE), chance.choice(PEOPLE), chance.choice(list(FULL))
    weight = FULL[name] if chance.random() < 0.7 else chance.choice((5, 8))
    many = chance.choice((1, 1, 2, 3))
    deeds = (
        ("call", chance.choice(("york", "bath")), name, chance.choice((0, 12, 30, 48))),
        ("strike", who, name, chance.choice((1, 3, 5))),
        ("strike", who, name, chance.choice((1, 3, 5))),
        ("bring", who, name, weight, many),
        ("shut", name) if chance.random() < 0.2 else ("strike", who, name, 2),
        ("give", who, whom, name, weight, many),
        ("clip", who, name, weight if weight > 8 else 8, chance.choice((5, 7)), many),
        ("lend", who, whom, chance.choice(("york", "bath")), chance.choice((0, 20, 60)), chance.choice(terms)),
        ("pay", chance.choice(debts + [1]), name, weight, many),
        ("pay", chance.choice(debts + [1]), name, weight, many),
    )
    return chance.choice(deeds)
