"""The desk: a house told and asked in rows of text."""

from callcoin.deeds import PARTS
from callcoin.errors import CoinError, NoText
from callcoin.forms import form
from callcoin.house import House
from callcoin.kinds import Kind
from callcoin.moneys import Money
from callcoin.names import is_figures, is_word
from callcoin.paying import least_over
from callcoin.termtexts import read_term

LEAST_HEAD = 3


def check_due(fits):
    """Refuses a text that has another form."""
    if not fits:
        raise NoText("a row has another form")


def read_number(figures):
    """The number that figures tell."""
    check_due(is_figures(figures))
    return int(figures)


def read_word(text):
    """The word that is due where a name is."""
    check_due(is_word(text))
    return text


def behind_word(row, word):
    """The words behind the first one, which is this, of a row."""
    words = row.split(" ")
    check_due(words[0] == word)
    return words[1:]


def read_units(row):
    """The units of a money, of the first row."""
    words = behind_word(row, "money")
    check_due(len(words) & 1 == 1)
    names = [read_word(word) for word in words[::2]]
    manies = [read_number(word) for word in words[1::2]] + [1]
    return list(zip(names, manies))


def read_kind(row):
    """The name, the full and the least weight of a kind, of its row."""
    words = behind_word(row, "kind")
    check_due(len(words) == 3)
    return read_word(words[0]), read_number(words[1]), read_number(words[2])


def read_people(row):
    """The names of the people, of their row."""
    words = behind_word(row, "people")
    check_due(len(words) > 0)
    return [read_word(word) for word in words]


def opened(head):
    """The money and the house of the rows ahead of the empty one."""
    check_due(len(head) >= LEAST_HEAD)
    # The whole form comes ahead of what moneys, kinds and houses are refused with.
    units = read_units(head[0])
    kind_rows = [read_kind(row) for row in head[1:-1]]
    people = read_people(head[-1])
    money = Money(units)
    kinds = [Kind(name, full, least) for name, full, least in kind_rows]
    return money, House(kinds, people)


def read_part(money, part, text):
    """A part of a deed, of its text."""
    if part in ("worth", "amount"):
        return money.amount(text)
    if part in ("weight", "lesser", "many", "debt"):
        return read_number(text)
    return text


def read_deed(money, text):
    """A deed, of its text."""
    word = text.partition(" ")[0]
    check_due(word in PARTS)
    parts = PARTS[word]
    terms = []
    if word == "lend":
        # Units and names may be called by, too; in a rule none stands between blanks.
        text, by, rule = text.rpartition(" by ")
        terms.append(read_term(rule))
        parts = parts[:-1]
    words = text.split(" ")[1:]
    if word in ("call", "lend"):
        # What is written as an amount has several words.
        last = len(parts) - 1
        words = words[:last] + [" ".join(words[last:])]
    check_due(len(words) == len(parts))
    return tuple([word] + [read_part(money, part, one) for part, one in zip(parts, words)] + terms)


def answer_deed(money, house, row):
    """The number of the telling of a day and a deed."""
    day, blank, text = row.partition(" ")
    return str(house.tell(read_number(day), read_deed(money, text)))


def listed(rows):
    """Rows as they are listed, with commas between."""
    if not rows:
        return "none"
    return ", ".join([" ".join([str(part) for part in row]) for row in rows])


def read_last_day(words):
    """The day that may stand as the last of two words, or None."""
    check_due(len(words) <= 2)
    return read_number(words[1]) if len(words) == 2 else None


def answer_held(money, house, text):
    """What somebody holds."""
    words = text.split(" ")
    return listed(house.held(words[0], read_last_day(words)))


def answer_left(money, house, text):
    """What is left of a debt."""
    words = text.split(" ")
    return money.text(house.left(read_number(words[0]), read_last_day(words)))


def answer_worth(money, house, text):
    """What somebody's pieces count in a town."""
    words = text.split(" ")
    check_due(len(words) == 3)
    return money.text(house.worth(words[0], words[1], read_number(words[2])))


def answer_dead(money, house, text):
    """What does not pass in a town."""
    words = text.split(" ")
    check_due(len(words) == 2)
    return listed(house.dead(words[0], read_number(words[1])))


def answer_pay(money, house, text):
    """Which of somebody's pieces pay what is due in a town, with the least over."""
    words = text.split(" ")
    # No amount is read of no words, so behind this there are three ahead of it.
    due = money.amount(" ".join(words[3:]))
    pieces = house.pieces(words[0], words[1], read_number(words[2]))
    told = least_over([worth for name, weight, worth in pieces], due)
    if told[0] == "short":
        return f"short {money.text(told[1])}"
    word, places, total = told
    chosen = [pieces[place][:2] for place in places]
    return f"{listed(chosen)} for {money.text(total)}"


def answer_alike(money, house, text):
    """Whether two rules have one form."""
    one, bar, other = text.partition(" | ")
    return "yes" if form(read_term(one)) == form(read_term(other)) else "no"


QUESTIONS = {"held": answer_held, "left": answer_left, "worth": answer_worth, "dead": answer_dead, "pay": answer_pay,
             "alike": answer_alike}


def answer(money, house, row):
    """The answer to a row."""
    word, blank, text = row.partition(" ")
    try:
        if word not in QUESTIONS:
            return answer_deed(money, house, row)
        action = QUESTIONS[word]
        return action(money, house, text)
    except CoinError:
        return "refused"


def answered(text):
    """The answers to the rows behind the head of a text, each ended by a line end."""
    rows = text.split("\n")
    check_due(rows[-1] == "" and "" in rows[:-1])
    head = rows.index("")
    money, house = opened(rows[:head])
    answers = [answer(money, house, row) + "\n" for row in rows[head + 1:-1]]
    return "".join(answers)
