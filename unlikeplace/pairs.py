"""Papers from below that list pairs no two of which may come to one end."""

from unlikeplace.squares import greatest_load, squares_with
from unlikeplace.words import height, is_one_of, is_rising


def is_paper(thing, kind, size):
    """Whether a thing is a tuple of so many things, the first being the word for a kind of papers."""
    return isinstance(thing, tuple) and len(thing) == size and thing[0] == kind


def is_pair(box, thing):
    """Whether a thing is a pair of a box."""
    if not isinstance(thing, tuple) or len(thing) != 2:
        return False
    return is_one_of(box[0], thing[0]) and is_one_of(box[1], thing[1])


def are_pairs(box, thing):
    """Whether a thing is a list, with one at least, of pairs of a box, rising."""
    if not isinstance(thing, list) or len(thing) == 0:
        return False
    return all([is_pair(box, pair) for pair in thing]) and is_rising(thing)


def shown_by_pairs(rule, box, thing):
    """What a paper ("pairs", list) shows for a box by a rule, or None; of anything."""
    if not is_paper(thing, "pairs", 2) or not are_pairs(box, thing[1]):
        return None
    if greatest_load(rule, [(yes, no, 1) for yes, no in thing[1]]) > 1:
        return None
    many = len(thing[1])
    return (many, height(many))


def many_pairs(rule, box):
    """The paper with each pair of a box, in order, that may stand beside those taken before."""
    taken = []
    filled = {}
    for yes in box[0]:
        for no in box[1]:
            own = squares_with(rule, yes, no)
            if not any([square in filled for square in own]):
                taken.append((yes, no))
                filled.update({square: True for square in own})
    return ("pairs", taken)
