"""Catalogues: the least leaves, or the least depth, of a saying for each table of few places."""

from unlikeplace.floors import AT_ONCE, put_together
from unlikeplace.sayings import table_by


def catalogue(places, rule, by):
    """The rising list of (table, number, saying) for all tables that a saying has but the two that never change."""
    number = top = AT_ONCE[by]
    found = {table_by(places, leaf): leaf for leaf in all_leaves(places, rule)}
    levels = {number: list(found)}
    # Two sayings of those found so far never have more together than two of the top.
    while number < put_together(by, top, top):
        number += 1
        fresh = put_in_twos(found, levels, splits(by, number))
        found.update(fresh)
        levels[number] = list(fresh)
        if len(fresh) > 0:
            top = number
    return sorted([(table, level, found[table]) for level in levels for table in levels[level]])


def all_leaves(places, rule):
    """All sayings that are leaves, by "rising" those without not."""
    bits = (1,) if rule == "rising" else (0, 1)
    return [("is", place, bit) for place in range(places) for bit in bits]


def splits(by, number):
    """All ways (one, other), the lesser one first, in which two sayings' numbers are put together to a number."""
    if by == "leaves":
        return [(one, number - one) for one in range(1, number // 2 + 1)]
    return [(one, number - 1) for one in range(number)]


def put_in_twos(found, levels, ways):
    """The tables not found so far, with sayings, of two tables each, taken from two levels in all these ways.

    Tables that are always 0 or always 1 are passed over: no least saying has such a part.
    """
    fresh = {}
    for low, high in ways:
        for one in levels[low]:
            for other in levels[high]:
                for join in ("and", "or"):
                    table = joined_table(join, one, other)
                    if table not in found and table not in fresh and 0 in table and 1 in table:
                        fresh[table] = (join, found[one], found[other])
    return fresh


def joined_table(join, one, other):
    """The table of two sayings with these tables, joined."""
    if join == "and":
        return tuple([left & right for left, right in zip(one, other)])
    return tuple([left | right for left, right in zip(one, other)])
