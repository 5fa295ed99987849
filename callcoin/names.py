"""What counts as a word, a name, figures, a number, a day, a worth and an amount."""

SMALL_LETTERS = "abcdefghijklmnopqrstuvwxyz"
FIGURES = "0123456789"
LONGEST_NAME = 8
MOST_FIGURES = 16
MOST_DAY = 9999
MOST_WORTH = 1000000
MOST_AMOUNT = 10 ** 15


def is_made_of(text, signs):
    """Whether the text has a sign or more, and none but these."""
    return len(text) > 0 and all([sign in signs for sign in text])


def is_word(text):
    """Whether it is a text of one small letter or more."""
    return isinstance(text, str) and is_made_of(text, SMALL_LETTERS)


def is_name(text):
    """Whether it is a text of 1 to 8 small letters."""
    return is_word(text) and len(text) <= LONGEST_NAME


def is_figures(text):
    """Whether the text is a number written in one to sixteen figures, with no 0 ahead of another."""
    if not is_made_of(text, FIGURES) or len(text) > MOST_FIGURES:
        return False
    return len(text) == 1 or text[0] != "0"


def is_number(number):
    """Whether it is a whole number."""
    # Python counts True and False as 1 and 0; here they are no numbers.
    return isinstance(number, int) and not isinstance(number, bool)


def is_within(number, least, most):
    """Whether it is a whole number from least to most."""
    return is_number(number) and least <= number <= most


def is_day(number):
    """Whether it is a whole number from 0 to 9999."""
    return is_within(number, 0, MOST_DAY)


def is_worth(number):
    """Whether it is a whole number from 0 to 1000000."""
    return is_within(number, 0, MOST_WORTH)


def is_amount(number):
    """Whether it is a whole number from 0 to 10 ** 15."""
    return is_within(number, 0, MOST_AMOUNT)
