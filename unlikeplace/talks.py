"""Talks: two hands speak bits by turns until they end at a place."""

from unlikeplace.cases import pairs_in
from unlikeplace.trees import tree_deep, tree_leaves
from unlikeplace.words import is_place, is_rising, is_word


def is_talk(places, thing):
    """Whether a thing is a talk for so many places."""
    waiting = [thing]
    while waiting:
        part = waiting.pop()
        if is_turn(places, part):
            waiting.append(part[2])
            waiting.append(part[3])
        elif not is_end(places, part):
            return False
    return True


def is_end(places, thing):
    """Whether a thing is the end of a talk."""
    if not isinstance(thing, tuple) or len(thing) != 2:
        return False
    return thing[0] == "end" and is_place(places, thing[1])


def is_turn(places, thing):
    """Whether a thing is a talk that a hand begins, whatever it goes on with."""
    if not isinstance(thing, tuple) or len(thing) != 4:
        return False
    return (thing[0] == "yes" or thing[0] == "no") and are_says(places, thing[1])


def are_says(places, thing):
    """Whether a thing is a tuple of words, rising, perhaps none."""
    if not isinstance(thing, tuple):
        return False
    return all([is_word(places, word) for word in thing]) and is_rising(thing)


def spoken(talk, yes, no):
    """The bits that are spoken for a yes word and a no word, and the place at which they end."""
    bits = []
    part = talk
    while part[0] != "end":
        own = yes if part[0] == "yes" else no
        bit = 1 if own in part[1] else 0
        bits.append(bit)
        part = part[2 + bit]
    return (bits, part[1])


def talk_deep(talk):
    """The depth of a talk."""
    return tree_deep(talk, "end")


def talk_leaves(talk):
    """How many ends a talk has."""
    return tree_leaves(talk, "end")


def parts_pair(rule, place, yes, no):
    """Whether a place parts a yes word and a no word by a rule."""
    if rule == "rising":
        return yes[place] == 1 and no[place] == 0
    return yes[place] != no[place]


def fault(case, rule, talk):
    """The first pair of a case that ends at a place that doesn't part it, with this place, or None."""
    for yes, no in pairs_in(case):
        place = spoken(talk, yes, no)[1]
        if not parts_pair(rule, place, yes, no):
            return (yes, no, place)
    return None


def lets_by(case, rule, talk):
    """Whether each pair of a case ends at a place that parts it by a rule."""
    return fault(case, rule, talk) is None
