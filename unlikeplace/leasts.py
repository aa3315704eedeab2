"""The least leaves and the least depth of talks for a case, with a talk that has them."""

from unlikeplace.boxes import partings
from unlikeplace.floors import put_together, reckoned
from unlikeplace.squares import common


def least(case, rule, by):
    """The least leaves, or the least depth, of a talk let by by a rule, and such a talk; or TooMany, NoRise."""
    numbers = dict(reckoned(case, rule, by))
    box = case[1:]
    return (numbers[box], least_talk(rule, by, box, numbers))


def least_talk(rule, by, box, numbers):
    """A talk for a box that has just the number that stands for it, where the least numbers stand for all boxes."""
    places = common(rule, box)
    if len(places) > 0:
        return ("end", places[0])
    hand, first, second = min(partings(box), key=lambda way: put_together(by, numbers[way[1]], numbers[way[2]]))
    says = second[0] if hand == "yes" else second[1]
    return (hand, says, least_talk(rule, by, first, numbers), least_talk(rule, by, second, numbers))
