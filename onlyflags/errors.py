"""The errors of the package."""


class FrameError(ValueError):
    """What all errors of this package are."""


class InvalidRule(FrameError):
    """A value is no rule."""


class InvalidBits(FrameError):
    """A value is no word of bits."""


class InvalidPayloads(FrameError):
    """A value is no list of payloads."""


class InvalidLength(FrameError):
    """A value is not an integer from 0 on."""


class InvalidIndex(FrameError):
    """A value is no index of what is asked for."""


class InvalidFraction(FrameError):
    """A value is no fraction."""


class InvalidChange(FrameError):
    """A value is no change of the word."""


class InvalidKind(FrameError):
    """A value is no kind of change."""


class InvalidFlag(FrameError):
    """A value is no word of at least one bit."""


class InvalidText(FrameError):
    """A value is not a text of what is to be read."""


class InvalidInsert(FrameError):
    """A value is no insert that can be put to a rule or taken from it."""


class InvalidCheck(FrameError):
    """A value is not an integer from 1 on."""


class InvalidNumber(FrameError):
    """A value is not a number of bits."""


class NothingToUndo(FrameError):
    """There is no call to take back."""


class Waiting(FrameError):
    """A change waits already."""


class Spoilt(FrameError):
    """An answer would come that is no payload."""


class TooLong(FrameError):
    """More bits would have gone out than a line lets through."""


class NotClean(FrameError):
    """A rule is not clean; the reason is the least list of payloads that shows it."""

    def __init__(self, reason):
        self.reason = reason
