"""Words, tables, sayings and talks written as texts."""

from unlikeplace.trees import folded

JOIN_SIGNS = {"and": "&", "or": "|"}
HAND_SIGNS = {"yes": "Y", "no": "N"}


def show_bits(bits):
    """The text of a word or a table."""
    return "".join([str(bit) for bit in bits])


def show_words(some):
    """The text of a tuple of words, perhaps none."""
    if len(some) == 0:
        return "-"
    return ",".join([show_bits(word) for word in some])


def show_table(table):
    """The text of a table."""
    return show_bits(table)


def show_saying(saying):
    """The text of a saying."""
    return folded(saying, "is", lambda leaf: f"{leaf[1]}" if leaf[2] == 1 else f"!{leaf[1]}",
                  lambda part, one, other: f"({one}{JOIN_SIGNS[part[0]]}{other})")


def show_talk(talk):
    """The text of a talk."""
    return folded(talk, "end", lambda end: f"{end[1]}",
                  lambda turn, first, second: f"{HAND_SIGNS[turn[0]]}[{show_words(turn[1])}]({first};{second})")
