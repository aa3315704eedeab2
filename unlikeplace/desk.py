"""The desk: keeps a case and a rule, is told rows, and answers each with a text."""

from unlikeplace.cases import case_by, case_of
from unlikeplace.ends import cut
from unlikeplace.errors import NoCase, NoRow, NoText, NoWord
from unlikeplace.fixed import fixed_case
from unlikeplace.leads import saying_of, talk_of
from unlikeplace.leasts import least
from unlikeplace.pairs import many_pairs, shown_by_pairs
from unlikeplace.reader import read_bits, read_saying, read_table, read_talk, read_words
from unlikeplace.sayings import deep, leaves, missed
from unlikeplace.sums import even_sums, shown_by_sums
from unlikeplace.talks import fault, talk_deep, talk_leaves
from unlikeplace.texts import show_saying, show_talk, show_words
from unlikeplace.turned import flipped_case, swapped_case

# How the words of each row are written behind the first one.
ROWS = {
    "table": ("TABLE",), "case": ("WORDS", "WORDS"), "rule": ("RULE",), "parts": ("SAYING",), "lets": ("TALK",),
    "talk": ("SAYING",), "cut": ("TALK",), "saying": ("TALK",), "least": ("BY",), "pairs": (), "sums": (),
    "flip": ("WORD",), "swap": (), "fix": ("PLACE", "BIT"), "show": (),
}
NEED_NO_CASE = ("table", "case", "rule")
# What is written for as many places as the kept case has.
BY_PLACES = ("SAYING", "TALK", "WORD", "PLACE")
CHOICES = {"RULE": ("any", "rising"), "BY": ("leaves", "depth"), "BIT": ("0", "1")}


def words_of(row):
    """The words of a row that there is, or NoRow."""
    if not isinstance(row, str):
        raise NoRow("a row is a text")
    words = row.split(" ")
    if words[0] not in ROWS:
        raise NoRow("no row begins so")
    if len(words) != 1 + len(ROWS[words[0]]):
        raise NoRow("the row has another number of words")
    return words


def read_row(first, words, case):
    """What is written by the words of a row behind its first one, as a list, or NoWord."""
    places = 0 if case is None else case[0]
    try:
        read = [read_word(kind, places, word) for kind, word in zip(ROWS[first], words)]
    except NoText:
        raise NoWord("a word of the row isn't written as it should be") from None
    if first == "case" and len(read[0][0]) != len(read[1][0]):
        raise NoWord("the words of the case have unlike numbers of bits")
    return read


def read_word(kind, places, word):
    """What a word of a row writes that should be of a kind, for so many places, or NoText."""
    if kind == "TABLE":
        return read_table(word)
    if kind == "WORDS":
        return read_words(word)
    if kind == "SAYING":
        return read_saying(places, word)
    if kind == "TALK":
        return read_talk(places, word)
    if kind == "WORD":
        return read_mask(places, word)
    if kind == "PLACE":
        return int(read_choice([str(place) for place in range(places)], word))
    return read_choice(CHOICES[kind], word)


def read_mask(places, word):
    """The tuple of the places at which a word of so many bits has 1, or NoText."""
    bits = read_bits(word)
    if len(bits) != places:
        raise NoText(0)
    return tuple([place for place, bit in enumerate(bits) if bit == 1])


def read_choice(choices, word):
    """The word, where it is one of the choices, or NoText."""
    if word not in choices:
        raise NoText(0)
    return word


def keep_table(case, rule, read):
    """The case of a table, or NoCase, and the rule."""
    return (case_by(read[0]), rule)


def keep_case(case, rule, read):
    """The case of yes words and no words, or NoCase, and the rule."""
    return (case_of(len(read[0][0]), read[0], read[1]), rule)


def keep_rule(case, rule, read):
    """The case, and another rule."""
    return (case, read[0])


def keep_flipped(case, rule, read):
    """The case flipped at some places, and the rule."""
    return (flipped_case(case, read[0]), rule)


def keep_swapped(case, rule, read):
    """The case with yes and no exchanged, and the rule."""
    return (swapped_case(case), rule)


def keep_fixed(case, rule, read):
    """The case fixed at a place to a bit, or NoCase, and the rule."""
    return (fixed_case(case, read[0], int(read[1])), rule)


def tell_parts(case, rule, read):
    """Whether a saying parts the case, with its leaves and depth, or the word that is missed."""
    wrong = missed(case, read[0])
    if wrong is None:
        return f"yes {leaves(read[0])} {deep(read[0])}"
    return f"no {show_words(wrong[1:])}"


def tell_lets(case, rule, read):
    """Whether a talk is let by by the rule, with its leaves and depth, or the fault."""
    wrong = fault(case, rule, read[0])
    if wrong is None:
        return f"yes {talk_leaves(read[0])} {talk_deep(read[0])}"
    return f"no {show_words(wrong[:1])} {show_words(wrong[1:2])} {wrong[2]}"


def tell_talk(case, rule, read):
    """The talk of a saying, or NoSaying."""
    return show_talk(talk_of(case, read[0]))


def tell_cut(case, rule, read):
    """A talk cut for the case."""
    return show_talk(cut(case, read[0]))


def tell_saying(case, rule, read):
    """The saying of a talk, or NoTalk."""
    return show_saying(saying_of(case, read[0]))


def tell_least(case, rule, read):
    """The least leaves or the least depth by the rule, or TooMany, NoRise."""
    return str(least(case, rule, read[0])[0])


def tell_pairs(case, rule, read):
    """How many leaves many pairs show by the rule."""
    box = case[1:]
    return str(shown_by_pairs(rule, box, many_pairs(rule, box))[0])


def tell_sums(case, rule, read):
    """How many leaves even sums show by the rule."""
    box = case[1:]
    return str(shown_by_sums(rule, box, even_sums(rule, box))[0])


def tell_case(case, rule, read):
    """The case."""
    return f"{show_words(case[1])} {show_words(case[2])}"


# Each tells the case and the rule that are kept from then on.
CHANGES = {
    "table": keep_table, "case": keep_case, "rule": keep_rule, "flip": keep_flipped, "swap": keep_swapped,
    "fix": keep_fixed,
}
# Each tells the answer.
ANSWERS = {
    "parts": tell_parts, "lets": tell_lets, "talk": tell_talk, "cut": tell_cut, "saying": tell_saying,
    "least": tell_least, "pairs": tell_pairs, "sums": tell_sums, "show": tell_case,
}


class Desk:
    """A desk with no case and the rule "any" at first."""

    def __init__(self):
        self.kept = None
        self.rule = "any"

    def say(self, row):
        """The answer to a row, or NoRow, NoWord, NoCase and what the stages refuse."""
        first, *words = words_of(row)
        if self.kept is None and any([kind in BY_PLACES for kind in ROWS[first]]):
            raise NoCase("no case is kept")
        read = read_row(first, words, self.kept)
        if self.kept is None and first not in NEED_NO_CASE:
            raise NoCase("no case is kept")
        if first in CHANGES:
            change = CHANGES[first]
            self.kept, self.rule = change(self.kept, self.rule, read)
            return "ok"
        answer = ANSWERS[first]
        return answer(self.kept, self.rule, read)
