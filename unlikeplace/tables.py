"""Tables: the values of a question at all words, in their order."""

from unlikeplace.words import all_words, is_bit

TABLE_SIZES = (2, 4, 8, 16, 32)


def is_table(thing):
    """Whether a thing is a table."""
    if not isinstance(thing, tuple) or len(thing) not in TABLE_SIZES:
        return False
    return all([is_bit(bit) for bit in thing])


def places_of(table):
    """How many places the words of a table have."""
    return len(table).bit_length() - 1


def table_of(places, some):
    """The table with 1 at just some words."""
    return tuple([1 if word in some else 0 for word in all_words(places)])


def value_at(table, word):
    """The value of a table at a word."""
    at = 0
    for bit in word:
        at = 2 * at + bit
    return table[at]


def grows(table):
    """Whether a table never goes from 1 to 0 when one 0 of a word becomes a 1."""
    places = places_of(table)
    for word in all_words(places):
        for place in range(places):
            raised = word[:place] + (1,) + word[place + 1:]
            if value_at(table, word) > value_at(table, raised):
                return False
    return True
