"""Sayings led into talks, and talks into sayings."""

from unlikeplace.ends import cut, ends_of
from unlikeplace.errors import NoSaying, NoTalk
from unlikeplace.sayings import parts, value
from unlikeplace.talks import lets_by
from unlikeplace.trees import folded, upward

JOIN_OF_HAND = {"yes": "or", "no": "and"}


def talk_of(case, saying):
    """The talk of a saying that parts a case, or NoSaying."""
    if not parts(case, saying):
        raise NoSaying("the saying doesn't part the case")
    led = folded(saying, "is", lambda leaf: led_leaf(case, leaf),
                 lambda part, one, other: led_join(case, part[0], one, other))
    return led[0]


def led_leaf(case, leaf):
    """The talk of a leaf, the leaf's values at the yes words of a case, and those at its no words."""
    return (("end", leaf[1]), [value(leaf, word) for word in case[1]], [value(leaf, word) for word in case[2]])


def led_join(case, join, one, other):
    """The talk of two sayings joined, and its values, of what was told of each of them.

    The values go along because reckoning them anew at each depth would take too long for deep sayings.
    """
    if join == "or":
        says = words_with(case[1], one[1], 0)
        return (("yes", says, one[0], other[0]), greater(one[1], other[1]), greater(one[2], other[2]))
    says = words_with(case[2], one[2], 1)
    return (("no", says, one[0], other[0]), smaller(one[1], other[1]), smaller(one[2], other[2]))


def words_with(words, values, bit):
    """The tuple of the words at which the value is this bit."""
    return tuple([word for word, found in zip(words, values) if found == bit])


def greater(ones, others):
    """The greater one of each two values."""
    return [max(one, other) for one, other in zip(ones, others)]


def smaller(ones, others):
    """The smaller one of each two values."""
    return [min(one, other) for one, other in zip(ones, others)]


def saying_of(case, talk):
    """The saying of a talk that is let by for a case by "any", or NoTalk."""
    if not lets_by(case, "any", talk):
        raise NoTalk("the talk isn't let by")
    kept = cut(case, talk)
    # Of a talk that is cut each end has yes words, and all of them have one bit there: their no words have the other.
    leaves = [("is", place, yes[0][place]) for bits, place, yes, no in ends_of(case, kept)]
    waiting = leaves[::-1]
    done = []
    for part in upward(kept, "end"):
        if part[0] == "end":
            done.append(waiting.pop())
        else:
            other = done.pop()
            one = done.pop()
            done.append((JOIN_OF_HAND[part[0]], one, other))
    return done[0]
