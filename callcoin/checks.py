"""Refusals of what is no name, day, worth or amount."""

from callcoin.errors import NoAmount, NoDay, NoName, NoWorth
from callcoin.names import is_amount, is_day, is_name, is_worth


def check_name(text):
    """Refuses what is no name."""
    if not is_name(text):
        raise NoName("a name is a text of 1 to 8 small letters")


def check_names(texts):
    """Refuses, where one of these is no name."""
    for text in texts:
        check_name(text)


def check_day(number):
    """Refuses what is no day."""
    if not is_day(number):
        raise NoDay("a day is a number from 0 to 9999")


def check_worth(number):
    """Refuses what is no worth."""
    if not is_worth(number):
        raise NoWorth("a worth is a number from 0 to 1000000")


def check_amount(number):
    """Refuses what is no amount."""
    if not is_amount(number):
        raise NoAmount("an amount is a number from 0 to 10 ** 15")
