"""Rules of payment read from texts."""

from callcoin.errors import NoText
from callcoin.names import FIGURES, SMALL_LETTERS, is_figures
from callcoin.terms import term_of

MOST_BRACKETS = 20


def read_run(text, at, signs):
    """The run of such signs, maybe none, that begins at a place, and the place behind it."""
    end = at
    while end < len(text) and text[end] in signs:
        end += 1
    return text[at:end], end


def read_sign(text, at, sign):
    """The place behind a sign or several that are due at a place."""
    if not text.startswith(sign, at):
        raise NoText("another sign is due in a rule")
    return at + len(sign)


def read_figures(text, at):
    """The number that is due at a place, with a blank ahead, and the place behind it."""
    figures, end = read_run(text, read_sign(text, at, " "), FIGURES)
    if not is_figures(figures):
        raise NoText("figures are due in a rule")
    return int(figures), end


def read_town(text, at):
    """The town, or None, that stands behind a call, and the place behind it."""
    if not text.startswith(" in ", at):
        return None, at
    town, end = read_run(text, at + len(" in "), SMALL_LETTERS)
    if town == "":
        raise NoText("a town is due in a rule")
    return town, end


def read_inner(word, text, at, brackets):
    """What a rule made of others tells, whose brackets, the last of so many, begin at a place."""
    # This is looked at ahead of what is inside, so that the reading never goes deeper than that.
    if brackets > MOST_BRACKETS:
        raise NoText("at most 20 brackets stand within one another")
    inner, end = read_told(text, read_sign(text, at, "("), brackets)
    told = [word, inner]
    while not text.startswith(")", end):
        inner, end = read_told(text, read_sign(text, end, ", "), brackets)
        told.append(inner)
    return tuple(told), end + 1


def read_told(text, at, brackets):
    """What the rule tells that begins at a place within so many brackets, and the place behind it."""
    word, end = read_run(text, at, SMALL_LETTERS)
    if word in ("least", "greatest"):
        return read_inner(word, text, end, brackets + 1)
    if word == "at":
        level, end = read_figures(text, end)
        return ("level", level), end
    if word == "day":
        when, end = read_figures(text, end)
    elif word in ("made", "paid"):
        when = word
    else:
        raise NoText("a rule begins with another word")
    town, end = read_town(text, end)
    return ("called", when, town), end


def read_term(text):
    """The rule that a text tells."""
    # The whole form comes ahead of what the rules are refused with, so no rule is made while reading.
    told, end = read_told(text, 0, 0)
    if end < len(text):
        raise NoText("a rule ends ahead of the text's end")
    return term_of(told)
