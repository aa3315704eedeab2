"""Things to hand in, and plain second reckonings to compare with."""

import itertools
import random


def nested(depth, wrap, core):
    thing = core
    for _ in range(depth):
        thing = wrap(thing)
    return thing


# One of each kind that may be handed in as anything, and shapes near those of the program.
ANYTHING = [
    0, 1, 2, -1, 5, 10 ** 29, -(10 ** 29), True, False, None,
    "", "0", "1", "01", "is", "and", "or", "end", "yes", "no", "any",
    (), (0,), (1,), (0, 1), (1, 0, 1), (2,), (-1,), (0, 2), (True,), (False, 1), (None,), ("0",), ("0", "1"),
    ((0,),), ((0,), (1,)), ([0], [1]), ((0, 1), (1, 0)),
    [], [0], [0, 1], [(0,)], [(0,), (1,)], [None], [[0]],
    {}, {0: 1}, {(0,): (1,)}, {"is": 0}, {0: 0, 1: 1},
    (0, 1, 0, 1, 0, 1), (0,) * 64, [0] * 32,
    ("is",), ("is", 0), ("is", 0, 1), ("and",), ("end", 0), ("yes", ()),
    nested(30, lambda x: (x,), 0), nested(30, lambda x: [x], 0), nested(30, lambda x: {0: x}, 0),
    nested(29, lambda x: ("and", x, 0), ()), nested(29, lambda x: ("yes", (), x, x) if x == () else (x,), ()),
    (0,) * 60000, [(0,)] * 30000, {k: k for k in range(30000)},
]


def words(places):
    return list(itertools.product((0, 1), repeat=places))


def looks_like_word(places, thing):
    return type(thing) is tuple and len(thing) == places and all(type(bit) is int and bit in (0, 1) for bit in thing)


def is_plain(thing):
    """Whether a told thing is made of plain kinds throughout."""
    if type(thing) in (tuple, list):
        return all(is_plain(part) for part in thing)
    return thing is None or type(thing) in (int, str, bool)


def some_cases(places, many, seed):
    """Cases of so many places, whole ones and ones that leave words out."""
    chance = random.Random(seed)
    cases = []
    while len(cases) < many:
        sorts = [chance.choice(("yes", "no", "none") if chance.random() < 0.5 else ("yes", "no"))
                 for _ in range(2 ** places)]
        yes = tuple(w for w, sort in zip(words(places), sorts) if sort == "yes")
        no = tuple(w for w, sort in zip(words(places), sorts) if sort == "no")
        if yes and no:
            cases.append((places, yes, no))
    return cases
