"""Questions put together: an outer one, asked of the answers to inner ones about blocks of places."""

from unlikeplace.cases import case_by
from unlikeplace.errors import NoCase, NoTalk
from unlikeplace.leads import saying_of, talk_of
from unlikeplace.sayings import against, rejoined
from unlikeplace.tables import places_of, value_at
from unlikeplace.talks import is_talk
from unlikeplace.trees import folded
from unlikeplace.words import MOST_PLACES, all_words


def block_starts(counts):
    """The first place of each block, of how many places the blocks have."""
    return [sum(counts[:k]) for k in range(len(counts))]


def inner_word(tables, word):
    """The word of the values that tables have at the blocks of a word."""
    counts = [places_of(table) for table in tables]
    return tuple([value_at(table, word[start:start + count])
                  for table, start, count in zip(tables, block_starts(counts), counts)])


def put_case(case, tables):
    """An outer case and its inner tables put together, or NoCase."""
    places = sum([places_of(table) for table in tables])
    if places > MOST_PLACES:
        raise NoCase("there are more than five places together")
    words = all_words(places)
    yes = tuple([word for word in words if inner_word(tables, word) in case[1]])
    no = tuple([word for word in words if inner_word(tables, word) in case[2]])
    if len(yes) == 0 or len(no) == 0:
        raise NoCase("there are no words of one sort")
    return (places, yes, no)


def moved_saying(saying, by):
    """A saying with its places moved by so many."""
    return folded(saying, "is", lambda leaf: ("is", leaf[1] + by, leaf[2]), rejoined)


def put_saying(saying, counts, inner):
    """A saying and inner sayings, for so many places each, put together."""
    ones = [moved_saying(each, start) for each, start in zip(inner, block_starts(counts))]
    zeros = [against(each) for each in ones]
    return folded(saying, "is", lambda leaf: ones[leaf[1]] if leaf[2] == 1 else zeros[leaf[1]], rejoined)


def put_talk(case, talk, tables, inner):
    """A talk and inner talks for the cases of inner tables put together, or NoCase, NoTalk.

    The talks go by way of their sayings, which are no deeper and have no more leaves, and no ends without pairs.
    """
    whole = put_case(case, tables)
    cases = [case_by(table) for table in tables]
    outer_saying = saying_let_by(case, talk)
    inner_sayings = [saying_let_by(each, own) for each, own in zip(cases, inner)]
    counts = [places_of(table) for table in tables]
    return talk_of(whole, put_saying(outer_saying, counts, inner_sayings))


def saying_let_by(case, talk):
    """The saying of a talk, or NoTalk, where it is a talk for another number of places too."""
    if not is_talk(case[0], talk):
        raise NoTalk("the talk is for another number of places")
    return saying_of(case, talk)
