"""Papers from below that go through all ways to part a box, and papers of any kind, which they are made of."""

from unlikeplace.boxes import is_small, partings
from unlikeplace.edges import shown_by_edges
from unlikeplace.floors import shown_by_floors, shown_by_steps
from unlikeplace.pairs import is_paper, shown_by_pairs
from unlikeplace.squares import common
from unlikeplace.sums import shown_by_sums


def shown_by_tries(rule, box, thing):
    """What a paper ("tries", list) shows for a box by a rule, or None; of anything."""
    if not is_paper(thing, "tries", 2) or not isinstance(thing[1], list):
        return None
    if not is_small(box) or len(common(rule, box)) > 0:
        return None
    ways = partings(box)
    if len(ways) == 0 or len(thing[1]) != len(ways):
        return None
    shown = []
    for way, papers in zip(ways, thing[1]):
        both = shown_by_two(rule, way, papers)
        if both is None:
            return None
        shown.append(both)
    return (min([leaves for leaves, depth in shown]), 1 + min([depth for leaves, depth in shown]))


def shown_by_two(rule, parting, thing):
    """The leaves together, and the greater depth, that a tuple of papers shows for both parts, or None; of anything."""
    if not isinstance(thing, tuple) or len(thing) != 2:
        return None
    one = shown_by_any(rule, parting[1], thing[0])
    if one is None:
        return None
    other = shown_by_any(rule, parting[2], thing[1])
    if other is None:
        return None
    return (one[0] + other[0], max(one[1], other[1]))


def shown_by_any(rule, box, thing):
    """What a paper of any of the kinds shows for a box by a rule, or None; of anything."""
    if is_paper(thing, "one", 1):
        return (1, 0)
    if is_paper(thing, "pairs", 2):
        return shown_by_pairs(rule, box, thing)
    if is_paper(thing, "sums", 3):
        return shown_by_sums(rule, box, thing)
    if is_paper(thing, "edges", 3):
        return shown_by_edges(rule, box, thing)
    if is_paper(thing, "tries", 2):
        return shown_by_tries(rule, box, thing)
    if is_paper(thing, "floors", 2):
        return shown_by_floors(rule, box, thing)
    if is_paper(thing, "steps", 2):
        return shown_by_steps(rule, box, thing)
    return None
