"""Cases: the words answered with yes and those answered with no."""

from unlikeplace.errors import NoCase
from unlikeplace.tables import places_of, value_at
from unlikeplace.words import all_words, are_places, is_rising, is_word


def case_of(places, yes, no):
    """The case of so many places with these yes words and these no words, or NoCase; of anything."""
    if not are_places(places):
        raise NoCase("a case has one to five places")
    yes_words = words_in_order(places, yes)
    no_words = words_in_order(places, no)
    if any([word in no_words for word in yes_words]):
        raise NoCase("a word is answered with yes and with no")
    return (int(places), yes_words, no_words)


def words_in_order(places, some):
    """The tuple, rising, of the words in a list or tuple, or NoCase; of anything."""
    if not isinstance(some, (list, tuple)):
        raise NoCase("the words stand in no list and no tuple")
    if len(some) == 0:
        raise NoCase("there are no words of one sort")
    if not all([is_word(places, word) for word in some]):
        raise NoCase("one of the words is no word of so many places")
    # Made anew, since a tuple or a number that is handed in might be of a kind of its own.
    ordered = sorted([tuple([int(bit) for bit in word]) for word in some])
    if not is_rising(ordered):
        raise NoCase("a word stands twice")
    return tuple(ordered)


def case_by(table):
    """The case of a table, or NoCase where it is always 0 or always 1."""
    places = places_of(table)
    words = all_words(places)
    yes = tuple([word for word in words if value_at(table, word) == 1])
    no = tuple([word for word in words if value_at(table, word) == 0])
    if len(yes) == 0 or len(no) == 0:
        raise NoCase("there are no words of one sort")
    return (places, yes, no)


def pairs_in(case):
    """The rising list of all pairs (yes word, no word) of a case."""
    return [(yes, no) for yes in case[1] for no in case[2]]
