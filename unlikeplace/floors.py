"""Floors and steps: how few leaves, how little depth the boxes of a case may have, each from those of its parts."""

from unlikeplace.boxes import boxes, is_small, partings
from unlikeplace.errors import NoRise
from unlikeplace.pairs import is_paper
from unlikeplace.squares import case_grows, common
from unlikeplace.words import height, is_whole

# What a talk that ends at once has.
AT_ONCE = {"leaves": 1, "depth": 0}


def put_together(by, one, other):
    """The leaves, or the depth, of a turn that goes on with talks that have so many, or are so deep."""
    return one + other if by == "leaves" else 1 + max(one, other)


def ceiling(rule, by, box, numbers):
    """The most that may stand for a box where the numbers stand for its parts; None where anything may."""
    if len(common(rule, box)) > 0:
        return AT_ONCE[by]
    return min([put_together(by, numbers[first], numbers[second]) for hand, first, second in partings(box)],
               default=None)


def reckoned(case, rule, by):
    """The rising list of (box, number) for all boxes of a case, the numbers being the least; or TooMany, NoRise."""
    ordered = boxes(case)
    if rule == "rising" and not case_grows(case):
        raise NoRise("the case doesn't grow")
    numbers = {}
    # A part of a box has fewer words than it, so each box finds its parts reckoned.
    for box in sorted(ordered, key=lambda some: len(some[0]) + len(some[1])):
        numbers[box] = ceiling(rule, by, box, numbers)
    return [(box, numbers[box]) for box in ordered]


def floors_of(case, rule):
    """The least leaves for all boxes of a case by a rule, or TooMany, NoRise."""
    return reckoned(case, rule, "leaves")


def steps_of(case, rule):
    """The least depth for all boxes of a case by a rule, or TooMany, NoRise."""
    return reckoned(case, rule, "depth")


def are_rows(case, thing):
    """Whether a thing is a list of tuples (box, whole number) with just the boxes of a case, rising."""
    if not isinstance(thing, list):
        return False
    if not all([isinstance(row, tuple) and len(row) == 2 and is_whole(row[1]) for row in thing]):
        return False
    if [row[0] for row in thing] != boxes(case):
        return False
    # Python takes True and 1 for the same, but a truth is no bit of a word.
    return all([is_whole(bit) for box, number in thing for some in box for word in some for bit in word])


def hold(case, rule, by, thing):
    """Whether rows (box, number) hold for a case by a rule; of anything."""
    if not is_small(case[1:]) or not are_rows(case, thing):
        return False
    numbers = dict(thing)
    for box, number in thing:
        most = ceiling(rule, by, box, numbers)
        if most is not None and number > most:
            return False
    return True


def floors_hold(case, rule, thing):
    """Whether floors hold for a case by a rule; of anything."""
    return hold(case, rule, "leaves", thing)


def steps_hold(case, rule, thing):
    """Whether steps hold for a case by a rule; of anything."""
    return hold(case, rule, "depth", thing)


def case_of_box(box):
    """A box taken as a case."""
    return (len(box[0][0]), box[0], box[1])


def shown_by_floors(rule, box, thing):
    """What a paper ("floors", list) shows for a box by a rule, or None; of anything."""
    if not is_paper(thing, "floors", 2) or not floors_hold(case_of_box(box), rule, thing[1]):
        return None
    number = dict(thing[1])[box]
    return (number, height(number))


def shown_by_steps(rule, box, thing):
    """What a paper ("steps", list) shows for a box by a rule, or None; of anything."""
    if not is_paper(thing, "steps", 2) or not steps_hold(case_of_box(box), rule, thing[1]):
        return None
    number = dict(thing[1])[box]
    return (number + 1, number)
