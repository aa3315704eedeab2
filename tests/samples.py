"""Things to hand in, and plain second reckonings to compare with."""

import itertools
import random


def nested(depth, wrap, core):
    thing = core
    for _ in range(depth):
        thing = wrap(thing)
    return thing


# One of each kind that may be handed in as anything, and shapes near those of the program.
ANYTHING = [
    0, 1, 2, -1, 5, 10 ** 29, -(10 ** 29), True, False, None,
    "", "0", "1", "01", "is", "and", "or", "end", "yes", "no", "any",
    (), (0,), (1,), (0, 1), (1, 0, 1), (2,), (-1,), (0, 2), (True,), (False, 1), (None,), ("0",), ("0", "1"),
    ((0,),), ((0,), (1,)), ([0], [1]), ((0, 1), (1, 0)),
    [], [0], [0, 1], [(0,)], [(0,), (1,)], [None], [[0]],
    {}, {0: 1}, {(0,): (1,)}, {"is": 0}, {0: 0, 1: 1},
    (0, 1, 0, 1, 0, 1), (0,) * 64, [0] * 32,
    ("is",), ("is", 0), ("is", 0, 1), ("and",), ("end", 0), ("yes", ()),
    nested(30, lambda x: (x,), 0), nested(30, lambda x: [x], 0), nested(30, lambda x: {0: x}, 0),
    nested(29, lambda x: ("and", x, 0), ()), nested(29, lambda x: ("yes", (), x, x) if x == () else (x,), ()),
    (0,) * 60000, [(0,)] * 30000, {k: k for k in range(30000)},
]


def words(places):
    return list(itertools.product((0, 1), repeat=places))


def looks_like_word(places, thing):
    return type(thing) is tuple and len(thing) == places and all(type(bit) is int and bit in (0, 1) for bit in thing)


def is_plain(thing):
    """Whether a told thing is made of plain kinds throughout."""
    if type(thing) in (tuple, list):
        return all(is_plain(part) for part in thing)
    return thing is None or type(thing) in (int, str, bool)


def some_cases(places, many, seed):
    """Cases of so many places, whole ones and ones that leave words out."""
    chance = random.Random(seed)
    cases = []
    while len(cases) < many:
        sorts = [chance.choice(("yes", "no", "none") if chance.random() < 0.5 else ("yes", "no"))
                 for _ in range(2 ** places)]
        yes = tuple(w for w, sort in zip(words(places), sorts) if sort == "yes")
        no = tuple(w for w, sort in zip(words(places), sorts) if sort == "no")
        if yes and no:
            cases.append((places, yes, no))
    return cases


def check_told(test, thing, told, right):
    """Whether a truth that is told of a thing is the right one (writing out the thing only where it isn't)."""
    if told is not right:
        test.fail(f"told {told}, not {right}, of {str(thing)[:200]}")


def all_small_cases(places):
    """All cases of one or two places."""
    cases = []
    for sorts in itertools.product(("yes", "no", "none"), repeat=2 ** places):
        rows = list(zip(words(places), sorts))
        yes = tuple(word for word, sort in rows if sort == "yes")
        no = tuple(word for word, sort in rows if sort == "no")
        if yes and no:
            cases.append((places, yes, no))
    return cases


def looks_like_saying(places, thing):
    if type(thing) is not tuple or len(thing) != 3 or type(thing[0]) is not str:
        return False
    if thing[0] == "is":
        return (type(thing[1]) is int and thing[1] in range(places)
                and type(thing[2]) is int and thing[2] in (0, 1))
    return thing[0] in ("and", "or") and all(looks_like_saying(places, part) for part in thing[1:])


def looks_like_talk(places, thing):
    if type(thing) is not tuple or len(thing) not in (2, 4) or type(thing[0]) is not str:
        return False
    if len(thing) == 2:
        return thing[0] == "end" and type(thing[1]) is int and thing[1] in range(places)
    says = thing[1]
    if thing[0] not in ("yes", "no") or type(says) is not tuple:
        return False
    if not all(looks_like_word(places, word) for word in says) or list(says) != sorted(set(says)):
        return False
    return looks_like_talk(places, thing[2]) and looks_like_talk(places, thing[3])


def a_saying(places, depth, chance, bits=(0, 1)):
    if depth == 0 or chance.random() < 0.15:
        return ("is", chance.randrange(places), chance.choice(bits))
    one, other = a_saying(places, depth - 1, chance, bits), a_saying(places, depth - 1, chance, bits)
    return (chance.choice(("and", "or")), one, other)


def a_talk(places, depth, chance):
    if depth == 0 or chance.random() < 0.15:
        return ("end", chance.randrange(places))
    part = chance.choice((0, 0.2, 0.5, 0.8, 1))
    says = tuple(word for word in words(places) if chance.random() < part)
    first, second = a_talk(places, depth - 1, chance), a_talk(places, depth - 1, chance)
    return (chance.choice(("yes", "no")), says, first, second)


def some_sayings(places, many, seed, bits=(0, 1)):
    """Sayings of all small depths."""
    chance = random.Random(seed)
    return [a_saying(places, number % 6, chance, bits) for number in range(many)]


def some_talks(places, many, seed):
    """Talks of all small depths, most of which aren't let by."""
    chance = random.Random(seed)
    return [a_talk(places, number % 6, chance) for number in range(many)]


def value_plainly(saying, word):
    if saying[0] == "is":
        return int(word[saying[1]] == saying[2])
    values = [value_plainly(part, word) for part in saying[1:]]
    return min(values) if saying[0] == "and" else max(values)


def led(case, saying):
    """A talk that is let by for a case, from a saying that parts it."""
    if saying[0] == "is":
        return ("end", saying[1])
    hand, wrong, own = ("yes", 0, case[1]) if saying[0] == "or" else ("no", 1, case[2])
    says = tuple(word for word in own if value_plainly(saying[1], word) == wrong)
    return (hand, says, led(case, saying[1]), led(case, saying[2]))


def with_part_changed(thing, change):
    """All things that come of changing one part of nested tuples, the whole being one."""
    changed = [change]
    if type(thing) is tuple:
        for at, part in enumerate(thing):
            changed += [thing[:at] + (each,) + thing[at + 1:] for each in with_part_changed(part, change)]
    return changed
