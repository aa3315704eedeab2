"""The boxes of a case, and the ways to part a box in two."""

from unlikeplace.errors import TooMany

MOST_WORDS = 8


def is_small(box):
    """Whether a box has at most eight words, of both sorts together."""
    return len(box[0]) + len(box[1]) <= MOST_WORDS


def partings(box):
    """The rising list of all ways (hand, first, second) to part a box by the words of one hand."""
    yes, no = box
    by_no = [("no", (yes, first), (yes, second)) for first, second in halves(no)]
    by_yes = [("yes", (first, no), (second, no)) for first, second in halves(yes)]
    return sorted(by_no + by_yes)


def halves(words):
    """All ways to put words into two parts, one at least into each, the least word into the first."""
    ways = [(words[:1], ())]
    for word in words[1:]:
        in_first = [(first + (word,), second) for first, second in ways]
        in_second = [(first, second + (word,)) for first, second in ways]
        ways = in_first + in_second
    return [way for way in ways if len(way[1]) > 0]


def boxes(case):
    """The rising list of all boxes of a case, or TooMany."""
    if not is_small(case[1:]):
        raise TooMany("the case has more than eight words")
    return sorted([(yes, no) for yes in some_of(case[1]) for no in some_of(case[2])])


def some_of(words):
    """All ways to take some of the words, one at least, in their order."""
    ways = [()]
    for word in words:
        ways = ways + [way + (word,) for way in ways]
    return ways[1:]
