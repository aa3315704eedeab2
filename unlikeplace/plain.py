"""The sayings that just list the words of a case."""


def joined(join, some):
    """Some sayings, one at least, joined by halves."""
    if len(some) == 1:
        return some[0]
    half = (len(some) + 1) // 2
    return (join, joined(join, some[:half]), joined(join, some[half:]))


def by_yes(case):
    """The saying by the yes words of a case: the word is one of them."""
    return joined("or", [is_the_word(word) for word in case[1]])


def by_no(case):
    """The saying by the no words of a case: the word is none of them."""
    return joined("and", [is_another_word(word) for word in case[2]])


def is_the_word(word):
    """The saying that all places are as in a word."""
    return joined("and", [("is", place, bit) for place, bit in enumerate(word)])


def is_another_word(word):
    """The saying that some place isn't as in a word."""
    return joined("or", [("is", place, 1 - bit) for place, bit in enumerate(word)])
