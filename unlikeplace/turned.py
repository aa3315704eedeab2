"""Questions turned about: places flipped or exchanged, hands swapped; sayings and talks go along."""

from unlikeplace.sayings import rejoined
from unlikeplace.trees import folded

OTHER_HAND = {"yes": "no", "no": "yes"}


def flipped_words(words, some):
    """The tuple, rising, of words with the other bits at some places."""
    return tuple(sorted([flipped_word(word, some) for word in words]))


def flipped_word(word, some):
    """A word with the other bits at some places."""
    return tuple([1 - bit if place in some else bit for place, bit in enumerate(word)])


def flipped_case(case, some):
    """A case with its words flipped at some places."""
    return (case[0], flipped_words(case[1], some), flipped_words(case[2], some))


def flipped_saying(saying, some):
    """A saying with the other bits in the leaves of some places."""
    return folded(saying, "is", lambda leaf: flipped_leaf(leaf, some), rejoined)


def flipped_leaf(leaf, some):
    """A leaf of a saying, with the other bit where it is at one of some places."""
    return ("is", leaf[1], 1 - leaf[2] if leaf[1] in some else leaf[2])


def flipped_talk(talk, some):
    """A talk with its says flipped at some places."""
    return folded(talk, "end", lambda end: end,
                  lambda turn, first, second: (turn[0], flipped_words(turn[1], some), first, second))


def exchanged_words(words, order):
    """The tuple, rising, of words with their places exchanged by an order."""
    return tuple(sorted([exchanged_word(word, order) for word in words]))


def exchanged_word(word, order):
    """The word that has at the place order[p] what the word has at the place p."""
    told = list(word)
    for place, bit in zip(order, word):
        told[place] = bit
    return tuple(told)


def exchanged_case(case, order):
    """A case with its places exchanged by an order."""
    return (case[0], exchanged_words(case[1], order), exchanged_words(case[2], order))


def exchanged_saying(saying, order):
    """A saying with its places exchanged by an order."""
    return folded(saying, "is", lambda leaf: ("is", order[leaf[1]], leaf[2]), rejoined)


def exchanged_talk(talk, order):
    """A talk with its places exchanged by an order, in its says and its ends."""
    return folded(talk, "end", lambda end: ("end", order[end[1]]),
                  lambda turn, first, second: (turn[0], exchanged_words(turn[1], order), first, second))


def swapped_case(case):
    """A case with yes and no exchanged."""
    return (case[0], case[2], case[1])


def swapped_talk(talk):
    """A talk with the hands exchanged, its says as they were."""
    return folded(talk, "end", lambda end: end,
                  lambda turn, first, second: (OTHER_HAND[turn[0]], turn[1], first, second))
