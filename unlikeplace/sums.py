"""Papers from below that give numbers to pairs, no square having more than a top."""

from unlikeplace.pairs import are_pairs, is_paper
from unlikeplace.squares import greatest_load
from unlikeplace.words import height, is_whole, least_times


def is_from_one(thing):
    """Whether a thing is a whole number from 1 on."""
    return is_whole(thing) and thing >= 1


def are_rows(box, thing):
    """Whether a thing is a list, with one at least, of tuples (yes word, no word, number), their pairs rising."""
    if not isinstance(thing, list):
        return False
    if not all([isinstance(row, tuple) and len(row) == 3 and is_from_one(row[2]) for row in thing]):
        return False
    return are_pairs(box, [row[:2] for row in thing])


def shown_by_sums(rule, box, thing):
    """What a paper ("sums", top, list) shows for a box by a rule, or None; of anything."""
    if not is_paper(thing, "sums", 3) or not is_from_one(thing[1]) or not are_rows(box, thing[2]):
        return None
    if greatest_load(rule, thing[2]) > thing[1]:
        return None
    leaves = least_times(thing[1], sum([row[2] for row in thing[2]]))
    return (leaves, height(leaves))


def even_sums(rule, box):
    """The paper with the number 1 for all pairs of a box and the least top with which it holds."""
    rows = [(yes, no, 1) for yes in box[0] for no in box[1]]
    # By "rising" there may be no square at all, but a top is never less than 1.
    return ("sums", max(1, greatest_load(rule, rows)), rows)
