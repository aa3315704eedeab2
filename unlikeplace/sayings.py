"""Sayings: what single places say of a word, put together by and and or."""

from unlikeplace.trees import folded, tree_deep, tree_leaves, upward
from unlikeplace.words import all_words, is_bit, is_place

OTHER_JOIN = {"and": "or", "or": "and"}


def is_saying(places, thing):
    """Whether a thing is a saying for so many places."""
    waiting = [thing]
    while waiting:
        part = waiting.pop()
        if not isinstance(part, tuple) or len(part) != 3:
            return False
        if part[0] == "and" or part[0] == "or":
            waiting.append(part[1])
            waiting.append(part[2])
        elif part[0] != "is" or not is_place(places, part[1]) or not is_bit(part[2]):
            return False
    return True


def value(saying, word):
    """The value of a saying at a word."""
    return folded(saying, "is", lambda leaf: 1 if word[leaf[1]] == leaf[2] else 0,
                  lambda part, one, other: min(one, other) if part[0] == "and" else max(one, other))


def deep(saying):
    """The depth of a saying."""
    return tree_deep(saying, "is")


def leaves(saying):
    """How many leaves a saying has."""
    return tree_leaves(saying, "is")


def table_by(places, saying):
    """The table of a saying."""
    return tuple([value(saying, word) for word in all_words(places)])


def against(saying):
    """The saying that has the other value at each word."""
    return folded(saying, "is", lambda leaf: ("is", leaf[1], 1 - leaf[2]),
                  lambda part, one, other: (OTHER_JOIN[part[0]], one, other))


def rejoined(part, one, other):
    """Two sayings joined as a part of a saying joins its own."""
    return (part[0], one, other)


def without_not(saying):
    """Whether all bits of a saying are 1."""
    return all([part[2] == 1 for part in upward(saying, "is") if part[0] == "is"])


def missed(case, saying):
    """The first word of a case at which a saying has the wrong value, yes words first, or None."""
    for word in case[1]:
        if value(saying, word) == 0:
            return ("yes", word)
    for word in case[2]:
        if value(saying, word) == 1:
            return ("no", word)
    return None


def parts(case, saying):
    """Whether a saying has the value 1 at each yes word of a case and 0 at each no word."""
    return missed(case, saying) is None
