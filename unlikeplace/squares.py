"""Boxes of a case, their common places, and the squares: what one place parts at once."""

from unlikeplace.talks import parts_pair


def common(rule, box):
    """The rising list of the places that part all pairs of a box by a rule."""
    return [place for place in range(len(box[0][0])) if parts_all(rule, place, box)]


def parts_all(rule, place, box):
    """Whether a place parts all pairs of a box by a rule."""
    return all([parts_pair(rule, place, yes, no) for yes in box[0] for no in box[1]])


def squares(case, rule):
    """The squares of a case by a rule as tuples (place, bit, box), by place, then bit."""
    told = []
    bits = (1,) if rule == "rising" else (0, 1)
    for place in range(case[0]):
        for bit in bits:
            yes = tuple([word for word in case[1] if word[place] == bit])
            no = tuple([word for word in case[2] if word[place] != bit])
            if len(yes) > 0 and len(no) > 0:
                told.append((place, bit, (yes, no)))
    return told


def squares_with(rule, yes, no):
    """The squares, as tuples (place, bit), that the pair of a yes word and a no word is in by a rule."""
    return [(place, bit) for place, bit in enumerate(yes) if parts_pair(rule, place, yes, no)]


def greatest_load(rule, rows):
    """The most that the numbers in one square come to, of rows (yes word, no word, number); 0 where none is in one."""
    loads = {}
    for yes, no, number in rows:
        for square in squares_with(rule, yes, no):
            loads[square] = loads.get(square, 0) + number
    return max([0] + list(loads.values()))


def case_grows(case):
    """Whether each pair of a case has a place that parts it by "rising"."""
    return all([len(squares_with("rising", yes, no)) > 0 for yes in case[1] for no in case[2]])
