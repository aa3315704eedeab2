"""Where the pairs of a case come to in a talk."""


def went_on(turn, yes, no):
    """The words (yes, no) that might go on with the first and those that might go on with the second talk of a turn."""
    own = yes if turn[0] == "yes" else no
    silent = tuple([word for word in own if word not in turn[1]])
    loud = tuple([word for word in own if word in turn[1]])
    if turn[0] == "yes":
        return ((silent, no), (loud, no))
    return ((yes, silent), (yes, loud))


def ends_of(case, talk):
    """The ends of a talk as tuples (bits, place, yes, no), with the words of a case that might come there."""
    ends = []
    waiting = [([], talk, case[1], case[2])]
    while waiting:
        bits, part, yes, no = waiting.pop()
        if part[0] == "end":
            ends.append((bits, part[1], yes, no))
        else:
            at_first, at_second = went_on(part, yes, no)
            waiting.append((bits + [1], part[3], at_second[0], at_second[1]))
            waiting.append((bits + [0], part[2], at_first[0], at_first[1]))
    return ends


def has_pairs(words):
    """Whether words (yes, no) make a pair."""
    return len(words[0]) > 0 and len(words[1]) > 0


def kept_upward(case, talk):
    """The parts of a talk that stay when it is cut for a case, each behind those that it goes on with."""
    downward = []
    waiting = [(talk, case[1], case[2])]
    while waiting:
        part, yes, no = waiting.pop()
        if part[0] == "end":
            downward.append(part)
            continue
        at_first, at_second = went_on(part, yes, no)
        if not has_pairs(at_first):
            waiting.append((part[3], yes, no))
        elif not has_pairs(at_second):
            waiting.append((part[2], yes, no))
        else:
            downward.append(part)
            waiting.append((part[2], at_first[0], at_first[1]))
            waiting.append((part[3], at_second[0], at_second[1]))
    return downward[::-1]


def cut(case, talk):
    """A talk without what no pair of a case comes to."""
    done = []
    for part in kept_upward(case, talk):
        if part[0] == "end":
            done.append(part)
        else:
            second = done.pop()
            first = done.pop()
            done.append((part[0], part[1], first, second))
    return done[0]
