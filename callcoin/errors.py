"""The refusals of the program."""


class CoinError(ValueError):
    """Any refusal."""


class NoName(CoinError):
    """What should be a name is none, or none that is known."""


class NoMoney(CoinError):
    """The units do not make a money."""


class NoAmount(CoinError):
    """What should be an amount is none."""


class NoText(CoinError):
    """A text has another form than the one that is read."""


class NoBridge(CoinError):
    """The numbers do not make a bridge between two moneys."""


class NoDay(CoinError):
    """What should be a day is none, or none that can be here."""


class NoWorth(CoinError):
    """What should be a worth is none."""


class NoBook(CoinError):
    """The book never had so many tellings."""


class NoTerm(CoinError):
    """The rules do not make a rule together."""


class NoWeight(CoinError):
    """What should be a weight is none that a piece can have here."""


class NoMany(CoinError):
    """It is no number of pieces that can be handled."""


class NoKinds(CoinError):
    """The kinds do not go together."""


class Lacking(CoinError):
    """Fewer pieces are there than are wanted: of the kind `name`, `many` more."""

    def __init__(self, name, many):
        # The number stays out of the message, since Python refuses to write out very long ones.
        super().__init__("fewer pieces are there than are wanted")
        self.name = name
        self.many = many


class NoRow(CoinError):
    """What should be a row of changers is none."""


class NoStock(CoinError):
    """What should be a stock of goods is none."""


class NoDebt(CoinError):
    """There is no such debt."""


class NoPeople(CoinError):
    """The people do not make a house."""


class NoDeed(CoinError):
    """What should be a deed is none."""


class Shut(CoinError):
    """Nothing of the kind is struck or brought any more."""


class TooMany(CoinError):
    """There are more than can be taken."""
