"""Words, and the bits, places and whole numbers that they are made of."""

MOST_PLACES = 5


def is_whole(thing):
    """Whether a thing is a whole number: a truth is none, though Python counts it as an int."""
    return isinstance(thing, int) and not isinstance(thing, bool)


def is_bit(thing):
    """Whether a thing is the whole number 0 or 1."""
    return is_whole(thing) and 0 <= thing <= 1


def are_places(thing):
    """Whether a thing is a number of places that there may be."""
    return is_whole(thing) and 1 <= thing <= MOST_PLACES


def is_place(places, thing):
    """Whether a thing is one of so many places."""
    return are_places(places) and is_whole(thing) and 0 <= thing < places


def is_word(places, thing):
    """Whether a thing is a word of so many places."""
    if not are_places(places) or not isinstance(thing, tuple):
        return False
    return len(thing) == places and all([is_bit(bit) for bit in thing])


def is_one_of(some, thing):
    """Whether a thing is one of some words, one at least, all of as many places."""
    # Asked first whether it is a word, since Python takes (True, 0) and (1, 0) for the same.
    return is_word(len(some[0]), thing) and thing in some


def is_rising(some):
    """Whether words are sorted, each once."""
    return all([some[k] < some[k + 1] for k in range(len(some) - 1)])


def all_words(places):
    """All words of so many places, rising."""
    words = [()]
    for place in range(places):
        words = [word + (bit,) for word in words for bit in (0, 1)]
    return words


def height(number):
    """The least whole number d from 0 on for which 2 to the power d is no less than the number."""
    if number <= 1:
        return 0
    return (number - 1).bit_length()


def least_times(number, goal):
    """The least whole number that times a number from 1 on is no less than a goal from 0 on; 0 where the goal is 0."""
    return (goal + number - 1) // number
