"""Questions with one place fixed to a bit and taken out."""

from unlikeplace.errors import NoCase
from unlikeplace.trees import folded


def fixed_words(words, place, bit):
    """The tuple of those of the words that have a bit at a place, with this place taken out."""
    # Rising words that have the same bit at a place stay rising without it.
    return tuple([word[:place] + word[place + 1:] for word in words if word[place] == bit])


def fixed_case(case, place, bit):
    """A case fixed at a place to a bit, or NoCase."""
    if case[0] == 1:
        raise NoCase("there is one place alone")
    yes = fixed_words(case[1], place, bit)
    no = fixed_words(case[2], place, bit)
    if len(yes) == 0 or len(no) == 0:
        raise NoCase("there are no words of one sort left")
    return (case[0] - 1, yes, no)


def fixed_talk(talk, place, bit):
    """A talk for two places or more, fixed at a place to a bit."""
    return folded(talk, "end", lambda end: ("end", fixed_place(end[1], place)),
                  lambda turn, first, second: (turn[0], fixed_words(turn[1], place, bit), first, second))


def fixed_place(old, place):
    """The number of an old place where a place is taken out; 0 for this place itself."""
    if old == place:
        return 0
    return old - 1 if old > place else old
