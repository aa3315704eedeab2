"""The refusals."""


class TalkError(ValueError):
    """Any refusal."""


class NoCase(TalkError):
    """What was handed in makes no case, or a case is needed and there is none."""


class NoSaying(TalkError):
    """The saying doesn't part the case."""


class NoTalk(TalkError):
    """The talk isn't let by."""


class NoRise(TalkError):
    """The case doesn't grow."""


class TooMany(TalkError):
    """The case has too many words."""


class NoRow(TalkError):
    """The desk has no such row."""


class NoWord(TalkError):
    """A word of a row isn't written as it should be."""


class NoText(TalkError):
    """The text writes nothing of its kind; at is how many of its first signs might begin one that does."""

    def __init__(self, at):
        self.at = at
