"""Texts read back into what they write."""

from unlikeplace.cases import case_of
from unlikeplace.errors import NoCase, NoText
from unlikeplace.tables import is_table
from unlikeplace.words import are_places, is_rising

BIT_SIGNS = ("0", "1")
PLACE_SIGNS = ("0", "1", "2", "3", "4")
JOINS = {"&": "and", "|": "or"}
HANDS = {"Y": "yes", "N": "no"}
# What has to come behind the bracket of two sayings joined, and behind the says of a talk, the next one last.
BEHIND_BRACKET = (")", "saying", "join", "saying")
BEHIND_SAYS = (")", "talk", ";", "talk", "(")


def must_be_text(thing):
    """Refuses with NoText what is no text."""
    if not isinstance(thing, str):
        raise NoText(0)


def must_end(text, at):
    """Refuses with NoText a text that goes on."""
    if at < len(text):
        raise NoText(at)


def sign_at(text, at):
    """The sign of a text at a number; behind its end a text without signs."""
    return text[at:at + 1]


def past(text, at, sign):
    """The number behind a sign that must stand in a text at a number, or NoText."""
    if sign_at(text, at) != sign:
        raise NoText(at)
    return at + 1


def place_at(places, text, at):
    """The place that stands in a text at a number, or NoText."""
    sign = sign_at(text, at)
    if sign not in PLACE_SIGNS[:places]:
        raise NoText(at)
    return int(sign)


def read_saying(places, text):
    """The saying for so many places that a text writes, or NoText; of anything."""
    must_be_text(text)
    at = 0
    # A list of what has to come replaces recursion: a text may open more brackets than Python's calls go deep.
    waiting = ["saying"]
    joins = []
    done = []
    while waiting:
        wanted = waiting.pop()
        sign = sign_at(text, at)
        if wanted == "saying" and sign == "(":
            waiting.extend(BEHIND_BRACKET)
        elif wanted == "saying" and sign == "!":
            at += 1
            done.append(("is", place_at(places, text, at), 0))
        elif wanted == "saying":
            done.append(("is", place_at(places, text, at), 1))
        elif wanted == "join" and sign in JOINS:
            joins.append(JOINS[sign])
        elif wanted == ")" and sign == ")":
            other = done.pop()
            one = done.pop()
            done.append((joins.pop(), one, other))
        else:
            raise NoText(at)
        at += 1
    must_end(text, at)
    return done[0]


def read_talk(places, text):
    """The talk for so many places that a text writes, or NoText; of anything."""
    must_be_text(text)
    at = 0
    waiting = ["talk"]
    begun = []
    done = []
    while waiting:
        wanted = waiting.pop()
        sign = sign_at(text, at)
        if wanted == "talk" and sign in HANDS:
            says, at = says_from(places, text, at + 1)
            begun.append((HANDS[sign], says))
            waiting.extend(BEHIND_SAYS)
        elif wanted == "talk":
            done.append(("end", place_at(places, text, at)))
            at += 1
        else:
            at = past(text, at, wanted)
            if wanted == ")":
                second = done.pop()
                first = done.pop()
                done.append(begun.pop() + (first, second))
    must_end(text, at)
    return done[0]


def says_from(places, text, at):
    """The says, in brackets, that stand in a text from a number on, and the number behind them, or NoText."""
    at = past(text, at, "[")
    if sign_at(text, at) == "-":
        return ((), past(text, at + 1, "]"))
    says = [word_from(places, text, at, ())]
    at += places
    # Behind the greatest word no other one may follow, so that a comma can't stand there.
    while sign_at(text, at) == "," and 0 in says[-1]:
        says.append(word_from(places, text, at + 1, says[-1]))
        at += 1 + places
    return (tuple(says), past(text, at, "]"))


def word_from(places, text, at, last):
    """The word, greater than the last one, that stands in a text from a number on, or NoText."""
    word = ()
    for number in range(at, at + places):
        sign = sign_at(text, number)
        if sign not in BIT_SIGNS:
            raise NoText(number)
        word = word + (int(sign),)
        greatest = word + (1,) * (places - len(word))
        if greatest <= last:
            raise NoText(number)
    return word


def read_bits(text):
    """The tuple of the bits that a text writes, or NoText."""
    if not all([sign in BIT_SIGNS for sign in text]):
        raise NoText(0)
    return tuple([int(sign) for sign in text])


def read_table(text):
    """The table that a text writes, or NoText; of anything."""
    must_be_text(text)
    table = read_bits(text)
    if not is_table(table):
        raise NoText(0)
    return table


def read_words(text):
    """The tuple of words, rising, one at least, of as many bits, one to five, that a text writes, or NoText."""
    words = tuple([read_bits(part) for part in text.split(",")])
    places = len(words[0])
    if not are_places(places) or not all([len(word) == places for word in words]) or not is_rising(words):
        raise NoText(0)
    return words


def read_case(text):
    """The case that a text writes, or NoText; of anything."""
    must_be_text(text)
    sides = text.split(" ")
    if len(sides) != 2:
        raise NoText(0)
    yes = read_words(sides[0])
    no = read_words(sides[1])
    try:
        return case_of(len(yes[0]), yes, no)
    except NoCase:
        raise NoText(0) from None
