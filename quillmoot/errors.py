"""The errors of the program, each keeping what it was made with."""


class MootError(ValueError):
    """What all errors of the program stand under; never raised itself."""


class InvalidDeed(MootError):
    """A value that is no deed."""

    def __init__(self, value):
        self.value = value


class InvalidHistory(MootError):
    """A value that is no history."""

    def __init__(self, value):
        self.value = value


class InvalidClock(MootError):
    """A value that is no clock, or no cut where a cut is asked."""

    def __init__(self, value):
        self.value = value


class InvalidNumber(MootError):
    """A number of which there is nothing, or that is not allowed here."""

    def __init__(self, value):
        self.value = value


class InvalidText(MootError):
    """A text that can not be read, and the number of the sign where it fails."""

    def __init__(self, text, at):
        self.text = text
        self.at = at


class Misfit(MootError):
    """A deed that does not fit its past."""

    def __init__(self, deed):
        self.deed = deed


class Unlike(MootError):
    """A deed whose id another deed has already."""

    def __init__(self, deed):
        self.deed = deed


class NoBlock(MootError):
    """An id of which there is no block."""

    def __init__(self, block):
        self.block = block


class NoSign(MootError):
    """An id of which there is no sign."""

    def __init__(self, sign):
        self.sign = sign


class NotAllowed(MootError):
    """The word of an act that this hand may not do."""

    def __init__(self, word):
        self.word = word


class Undefined(MootError):
    """The word for what is asked and is not there."""

    def __init__(self, what):
        self.what = what
