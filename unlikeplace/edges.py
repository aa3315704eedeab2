"""Papers from below that count the pairs of some words that differ at just one place."""

from unlikeplace.pairs import is_paper
from unlikeplace.squares import squares_with
from unlikeplace.words import height, is_one_of, is_rising, least_times


def are_some_of(words, thing):
    """Whether a thing is a tuple, rising, of some of the words, one at least."""
    if not isinstance(thing, tuple) or len(thing) == 0:
        return False
    return all([is_one_of(words, word) for word in thing]) and is_rising(thing)


def is_edge(rule, yes, no):
    """Whether two words differ at just one place, and this place parts them by a rule."""
    return len(squares_with("any", yes, no)) == 1 and len(squares_with(rule, yes, no)) == 1


def shown_by_edges(rule, box, thing):
    """What a paper ("edges", yes, no) shows for a box by a rule, or None; of anything."""
    if not is_paper(thing, "edges", 3):
        return None
    if not are_some_of(box[0], thing[1]) or not are_some_of(box[1], thing[2]):
        return None
    many = len([1 for yes in thing[1] for no in thing[2] if is_edge(rule, yes, no)])
    leaves = least_times(len(thing[1]) * len(thing[2]), many * many)
    return (leaves, height(leaves))
