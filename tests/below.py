"""Plain second reckonings of what papers from below show, of partings and of floors, by the words of the promises."""

import copy
import itertools
from fractions import Fraction
from math import ceil

from tests.samples import common_plainly, parting_places, words


def strictly(one, other):
    """Whether two things are the same, of the same kinds throughout."""
    if type(one) is not type(other):
        return False
    if type(one) in (tuple, list):
        return len(one) == len(other) and all(strictly(each, that) for each, that in zip(one, other))
    return one == other


def among(thing, some):
    return any(thing == each and strictly(thing, each) for each in some)


def rising(some):
    return all(one < other for one, other in zip(some, some[1:]))


def is_whole(thing):
    return type(thing) is int


def check_shown(test, told, right, thing):
    """Whether what is told of a thing is right (writing out the thing only where it isn't)."""
    if not strictly(told, right):
        test.fail(f"told {told}, not {right}, of {str(thing)[:300]}")


def check_untouched(test, shown, rule, box, thing):
    """Whether a paper stays as it was, and what is done to it afterwards changes nothing that was told or is told."""
    before = copy.deepcopy((box, thing))
    told = shown(rule, box, thing)
    kept = copy.deepcopy(told)
    test.assertTrue(strictly((box, thing), before))
    for part in thing:
        if type(part) is list:
            part.clear()
    test.assertTrue(strictly(told, kept))
    test.assertIsNone(shown(rule, box, thing))
    check_shown(test, shown(rule, *before), kept, before)


def height_plainly(number):
    power = 0
    while 2 ** power < number:
        power += 1
    return power


def bits_by(rule):
    return {"any": (0, 1), "rising": (1,)}[rule]


def is_of_kind(thing, kind, size):
    return type(thing) is tuple and len(thing) == size and strictly(thing[0], kind)


def in_square(place, bit, yes, no):
    return yes[place] == bit and no[place] == 1 - bit


def all_squares(rule, box):
    return list(itertools.product(range(len(box[0][0])), bits_by(rule)))


def pairs_plainly(rule, box, thing):
    if not is_of_kind(thing, "pairs", 2) or type(thing[1]) is not list or not thing[1]:
        return None
    pairs = list(itertools.product(*box))
    if not all(among(pair, pairs) for pair in thing[1]) or not rising(thing[1]):
        return None
    for one, other in itertools.combinations(thing[1], 2):
        for place, bit in all_squares(rule, box):
            if in_square(place, bit, *one) and in_square(place, bit, *other):
                return None
    return (len(thing[1]), height_plainly(len(thing[1])))


def sums_plainly(rule, box, thing):
    if not is_of_kind(thing, "sums", 3) or not is_whole(thing[1]) or thing[1] < 1:
        return None
    if type(thing[2]) is not list or not thing[2]:
        return None
    pairs = list(itertools.product(*box))
    for row in thing[2]:
        if type(row) is not tuple or len(row) != 3 or not among(row[:2], pairs):
            return None
        if not is_whole(row[2]) or row[2] < 1:
            return None
    if not rising([row[:2] for row in thing[2]]):
        return None
    for place, bit in all_squares(rule, box):
        if sum(number for yes, no, number in thing[2] if in_square(place, bit, yes, no)) > thing[1]:
            return None
    leaves = ceil(Fraction(sum(row[2] for row in thing[2]), thing[1]))
    return (leaves, height_plainly(leaves))


def edges_plainly(rule, box, thing):
    if not is_of_kind(thing, "edges", 3):
        return None
    for some, own in zip(thing[1:], box):
        if type(some) is not tuple or not some or not all(among(word, own) for word in some) or not rising(some):
            return None
    many = 0
    for yes, no in itertools.product(thing[1], thing[2]):
        unlike = [(one, other) for one, other in zip(yes, no) if one != other]
        if len(unlike) == 1 and (rule == "any" or unlike == [(1, 0)]):
            many += 1
    leaves = ceil(Fraction(many * many, len(thing[1]) * len(thing[2])))
    return (leaves, height_plainly(leaves))


def partings_plainly(box):
    told = []
    for at, hand in ((0, "yes"), (1, "no")):
        for size in range(1, len(box[at])):
            for first in itertools.combinations(box[at], size):
                if min(box[at]) in first:
                    second = tuple(sorted(set(box[at]) - set(first)))
                    parts = [(part, box[1]) if at == 0 else (box[0], part) for part in (first, second)]
                    told.append((hand, parts[0], parts[1]))
    return sorted(told)


def boxes_plainly(box):
    sides = [[some for size in range(1, len(side) + 1) for some in itertools.combinations(side, size)] for side in box]
    return sorted(itertools.product(*sides))


def hold_plainly(box, rule, by, thing):
    """Whether floors (by "leaves") or steps (by "depth") hold for a box taken as a case."""
    if len(box[0]) + len(box[1]) > 8 or type(thing) is not list:
        return False
    if not all(type(row) is tuple and len(row) == 2 for row in thing):
        return False
    if not strictly([row[0] for row in thing], boxes_plainly(box)) or not all(is_whole(row[1]) for row in thing):
        return False
    numbers = {row[0]: row[1] for row in thing}
    for each, number in thing:
        if common_plainly(rule, each):
            if number > {"leaves": 1, "depth": 0}[by]:
                return False
            continue
        for hand, first, second in partings_plainly(each):
            one, other = numbers[first], numbers[second]
            if number > {"leaves": one + other, "depth": 1 + max(one, other)}[by]:
                return False
    return True


def rows_plainly(box, rule, by):
    """The floors or the steps of a box taken as a case that grows by the rule, from the whole downward."""
    known = {}

    def least(each):
        if each not in known:
            if common_plainly(rule, each):
                known[each] = {"leaves": 1, "depth": 0}[by]
            else:
                ways = [(least(first), least(second)) for hand, first, second in partings_plainly(each)]
                known[each] = min(sum(way) if by == "leaves" else 1 + max(way) for way in ways)
        return known[each]
    return [(each, least(each)) for each in boxes_plainly(box)]


def tries_plainly(rule, box, thing):
    if not is_of_kind(thing, "tries", 2) or type(thing[1]) is not list or len(box[0]) + len(box[1]) > 8:
        return None
    ways = partings_plainly(box)
    if common_plainly(rule, box) or not ways or len(thing[1]) != len(ways):
        return None
    sums, depths = [], []
    for (hand, first, second), papers in zip(ways, thing[1]):
        if type(papers) is not tuple or len(papers) != 2:
            return None
        one, other = shown_plainly(rule, first, papers[0]), shown_plainly(rule, second, papers[1])
        if one is None or other is None:
            return None
        sums.append(one[0] + other[0])
        depths.append(max(one[1], other[1]))
    return (min(sums), 1 + min(depths))


def shown_plainly(rule, box, thing):
    """Of a paper of any kind."""
    if is_of_kind(thing, "one", 1):
        return (1, 0)
    for reckon in (pairs_plainly, sums_plainly, edges_plainly, tries_plainly):
        shown = reckon(rule, box, thing)
        if shown is not None:
            return shown
    if is_of_kind(thing, "floors", 2) and hold_plainly(box, rule, "leaves", thing[1]):
        number = [row[1] for row in thing[1] if row[0] == box][0]
        return (number, height_plainly(number))
    if is_of_kind(thing, "steps", 2) and hold_plainly(box, rule, "depth", thing[1]):
        number = [row[1] for row in thing[1] if row[0] == box][0]
        return (number + 1, number)
    return None


def full_tries(rule, box):
    """The paper that tries everything down to boxes with a common place; None for a pair without one."""
    if common_plainly(rule, box):
        return ("one",)
    return ("tries", [(full_tries(rule, first), full_tries(rule, second)) for hand, first, second
                      in partings_plainly(box)])


def a_paper(rule, box, chance, depth):
    """A paper of any kind that may hold for a box, or not."""
    kind = chance.choice(("one", "pairs", "sums", "edges", "floors", "steps") + ("tries",) * (4 * depth))
    small = len(box[0]) + len(box[1]) <= 8
    if kind == "pairs":
        pairs = list(itertools.product(*box))
        return ("pairs", sorted(chance.sample(pairs, chance.randint(1, min(2, len(pairs))))))
    if kind == "sums":
        rows = [pair + (chance.randint(1, 4),) for pair in itertools.product(*box) if chance.random() < 0.7]
        return ("sums", chance.randint(2, 12), rows)
    if kind == "edges":
        return ("edges",) + tuple(tuple(sorted(chance.sample(side, chance.randint(1, len(side))))) for side in box)
    if kind in ("floors", "steps") and small:
        low = {"floors": 1, "steps": 0}[kind]
        whole = chance.choice((low - 1, low, low + 1, low + 2))
        return (kind, [(each, whole if each == box else low) for each in boxes_plainly(box)])
    if kind == "tries" and small:
        return ("tries", [(a_paper(rule, first, chance, depth - 1), a_paper(rule, second, chance, depth - 1))
                          for hand, first, second in partings_plainly(box)])
    return ("one",)


def least_sayings(places, rule, by):
    """The least leaves, or the least depth, of a saying (by "rising" without not) for each table that has one."""
    tables = words(2 ** places)
    leaves = [tuple(int(word[place] == bit) for word in words(places))
              for place in range(places) for bit in bits_by(rule)]
    least = {table: {"leaves": 1, "depth": 0}[by] for table in leaves}
    number = {"leaves": 1, "depth": 0}[by]
    while True:
        number += 1
        if by == "leaves":
            parts = [(one, other) for one in least for other in least if least[one] + least[other] == number]
            if number > 2 * max(least.values()):
                return least
        else:
            parts = list(itertools.product(least, repeat=2))
        found = {}
        for one, other in parts:
            for table in (tuple(map(min, one, other)), tuple(map(max, one, other))):
                if table not in least:
                    found[table] = number
        if by == "depth" and not found:
            return least
        assert set(found) <= set(tables)
        least.update(found)


def least_by_sayings(box, rule, by, catalogue):
    """The least of all sayings that part a box taken as a case, of a catalogue by least_sayings."""
    order = words(len(box[0][0]))
    yes, no = [[order.index(word) for word in side] for side in box]
    return min(number for table, number in catalogue.items()
               if all(table[at] == 1 for at in yes) and all(table[at] == 0 for at in no))


def all_parted(rule, box):
    """Whether each pair of a box has a place that parts it by a rule."""
    return all(parting_places(rule, yes, no) for yes, no in itertools.product(*box))
