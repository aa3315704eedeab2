"""Things to hand in, and plain second reckonings to compare with."""

import itertools
import random


def nested(depth, wrap, core):
    thing = core
    for _ in range(depth):
        thing = wrap(thing)
    return thing


# One of each kind that may be handed in as anything, and shapes near those of the program.
ANYTHING = [
    0, 1, 2, -1, 5, 10 ** 29, -(10 ** 29), True, False, None,
    "", "0", "1", "01", "is", "and", "or", "end", "yes", "no", "any",
    (), (0,), (1,), (0, 1), (1, 0, 1), (2,), (-1,), (0, 2), (True,), (False, 1), (None,), ("0",), ("0", "1"),
    ((0,),), ((0,), (1,)), ([0], [1]), ((0, 1), (1, 0)),
    [], [0], [0, 1], [(0,)], [(0,), (1,)], [None], [[0]],
    {}, {0: 1}, {(0,): (1,)}, {"is": 0}, {0: 0, 1: 1},
    (0, 1, 0, 1, 0, 1), (0,) * 64, [0] * 32,
    ("is",), ("is", 0), ("is", 0, 1), ("and",), ("end", 0), ("yes", ()),
    nested(30, lambda x: (x,), 0), nested(30, lambda x: [x], 0), nested(30, lambda x: {0: x}, 0),
    nested(29, lambda x: ("and", x, 0), ()), nested(29, lambda x: ("yes", (), x, x) if x == () else (x,), ()),
    (0,) * 60000, [(0,)] * 30000, {k: k for k in range(30000)},
]


def words(places):
    return list(itertools.product((0, 1), repeat=places))


def looks_like_word(places, thing):
    return type(thing) is tuple and len(thing) == places and all(type(bit) is int and bit in (0, 1) for bit in thing)


def is_plain(thing):
    """Whether a told thing is made of plain kinds throughout."""
    if type(thing) in (tuple, list):
        return all(is_plain(part) for part in thing)
    return thing is None or type(thing) in (int, str, bool)


def some_cases(places, many, seed):
    """Cases of so many places, whole ones and ones that leave words out."""
    chance = random.Random(seed)
    cases = []
    while len(cases) < many:
        sorts = [chance.choice(("yes", "no", "none") if chance.random() < 0.5 else ("yes", "no"))
                 for _ in range(2 ** places)]
        yes = tuple(w for w, sort in zip(words(places), sorts) if sort == "yes")
        no = tuple(w for w, sort in zip(words(places), sorts) if sort == "no")
        if yes and no:
            cases.append((places, yes, no))
    return cases


def check_told(test, thing, told, right):
    """Whether a truth that is told of a thing is the right one (writing out the thing only where it isn't)."""
    if told is not right:
        test.fail(f"told {told}, not {right}, of {str(thing)[:200]}")


def all_small_cases(places):
    """All cases of one or two places."""
    cases = []
    for sorts in itertools.product(("yes", "no", "none"), repeat=2 ** places):
        rows = list(zip(words(places), sorts))
        yes = tuple(word for word, sort in rows if sort == "yes")
        no = tuple(word for word, sort in rows if sort == "no")
        if yes and no:
            cases.append((places, yes, no))
    return cases


def looks_like_saying(places, thing):
    if type(thing) is not tuple or len(thing) != 3 or type(thing[0]) is not str:
        return False
    if thing[0] == "is":
        return (type(thing[1]) is int and thing[1] in range(places)
                and type(thing[2]) is int and thing[2] in (0, 1))
    return thing[0] in ("and", "or") and all(looks_like_saying(places, part) for part in thing[1:])


def looks_like_talk(places, thing):
    if type(thing) is not tuple or len(thing) not in (2, 4) or type(thing[0]) is not str:
        return False
    if len(thing) == 2:
        return thing[0] == "end" and type(thing[1]) is int and thing[1] in range(places)
    says = thing[1]
    if thing[0] not in ("yes", "no") or type(says) is not tuple:
        return False
    if not all(looks_like_word(places, word) for word in says) or list(says) != sorted(set(says)):
        return False
    return looks_like_talk(places, thing[2]) and looks_like_talk(places, thing[3])


def a_saying(places, depth, chance, bits=(0, 1)):
    if depth == 0 or chance.random() < 0.15:
        return ("is", chance.randrange(places), chance.choice(bits))
    one, other = a_saying(places, depth - 1, chance, bits), a_saying(places, depth - 1, chance, bits)
    return (chance.choice(("and", "or")), one, other)


def a_talk(places, depth, chance):
    if depth == 0 or chance.random() < 0.15:
        return ("end", chance.randrange(places))
    part = chance.choice((0, 0.2, 0.5, 0.8, 1))
    says = tuple(word for word in words(places) if chance.random() < part)
    first, second = a_talk(places, depth - 1, chance), a_talk(places, depth - 1, chance)
    return (chance.choice(("yes", "no")), says, first, second)


def some_sayings(places, many, seed, bits=(0, 1)):
    """Sayings of all small depths."""
    chance = random.Random(seed)
    return [a_saying(places, number % 6, chance, bits) for number in range(many)]


def some_talks(places, many, seed):
    """Talks of all small depths, most of which aren't let by."""
    chance = random.Random(seed)
    return [a_talk(places, number % 6, chance) for number in range(many)]


def value_plainly(saying, word):
    if saying[0] == "is":
        return int(word[saying[1]] == saying[2])
    values = [value_plainly(part, word) for part in saying[1:]]
    return min(values) if saying[0] == "and" else max(values)


def led(case, saying):
    """A talk that is let by for a case, from a saying that parts it."""
    if saying[0] == "is":
        return ("end", saying[1])
    hand, wrong, own = ("yes", 0, case[1]) if saying[0] == "or" else ("no", 1, case[2])
    says = tuple(word for word in own if value_plainly(saying[1], word) == wrong)
    return (hand, says, led(case, saying[1]), led(case, saying[2]))


def with_part_changed(thing, change):
    """All things that come of changing one part of nested tuples and lists, the whole being one."""
    changed = [change]
    if type(thing) in (tuple, list):
        for at, part in enumerate(thing):
            changed += [thing[:at] + type(thing)([each]) + thing[at + 1:] for each in with_part_changed(part, change)]
    return changed


def some_boxes(places, many, seed, most=32):
    """Boxes of so many places, of at most so many words, both sorts together."""
    chance = random.Random(seed)
    boxes = []
    while len(boxes) < many:
        size = chance.randint(2, min(most, 2 ** places))
        some = chance.sample(words(places), size)
        middle = chance.randint(1, size - 1)
        boxes.append((tuple(sorted(some[:middle])), tuple(sorted(some[middle:]))))
    return boxes


def some_rising_boxes(places, many, seed, most=32):
    """Boxes of cases that grow."""
    chance = random.Random(seed)
    boxes = []
    while len(boxes) < many:
        saying = a_saying(places, chance.randint(1, 4), chance, (1,))
        some = [word for word in words(places) if chance.random() < chance.choice((0.5, 1))]
        chance.shuffle(some)
        some = sorted(some[:most])
        yes = tuple(word for word in some if value_plainly(saying, word) == 1)
        no = tuple(word for word in some if value_plainly(saying, word) == 0)
        if yes and no:
            boxes.append((yes, no))
    return boxes


def many_boxes(seed, most=32):
    """Boxes of each number of places, of cases that grow and of others."""
    for places in range(1, 6):
        yield from some_boxes(places, 25, seed + places, most)
        yield from some_rising_boxes(places, 25, seed + 10 + places, most)


def as_case(box):
    return (len(box[0][0]), box[0], box[1])


def parting_places(rule, yes, no):
    """The places that part a pair by a rule."""
    good = {(1, 0)} if rule == "rising" else {(0, 1), (1, 0)}
    return [place for place, bits in enumerate(zip(yes, no)) if bits in good]


def common_plainly(rule, box):
    common = set(range(len(box[0][0])))
    for yes, no in itertools.product(*box):
        common &= set(parting_places(rule, yes, no))
    return sorted(common)


def a_let_by_talk(rule, box, chance):
    """A talk that is let by for a box by a rule, with says of words that are in no box and branches for no pair."""
    places = len(box[0][0])
    common = common_plainly(rule, box)
    if common and chance.random() < 0.6:
        return ("end", chance.choice(common))
    hand = chance.choice(("yes", "no"))
    at = 0 if hand == "yes" else 1
    rest = [word for word in words(places) if word not in box[at]]
    said = {word for word in rest if chance.random() < 0.5}
    if chance.random() < 0.3 or len(box[at]) == 1:
        dead = a_talk(places, 2, chance)
        live = ("end", common[0]) if common else a_let_by_talk(rule, box, chance)
        if chance.random() < 0.5:
            return (hand, tuple(sorted(said)), live, dead)
        return (hand, tuple(sorted(said | set(box[at]))), dead, live)
    loud = set(chance.sample(box[at], chance.randint(1, len(box[at]) - 1)))
    parts = []
    for bit in (False, True):
        own = tuple(word for word in box[at] if (word in loud) == bit)
        parts.append(a_let_by_talk(rule, (own, box[1]) if hand == "yes" else (box[0], own), chance))
    return (hand, tuple(sorted(said | loud)), parts[0], parts[1])
