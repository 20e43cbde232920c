"""The errors that the package raises."""


class VoiceError(ValueError):
    """The base class of all errors of the package."""


class BadWay(VoiceError):
    """A value that is the name of no told way."""


class BadPromise(VoiceError):
    """A value that is the name of no promise."""


class BadPromises(VoiceError):
    """A value that is no ascending tuple of different promises."""


class BadNumber(VoiceError):
    """A value that is no integer within the limits."""


class NotParts(VoiceError):
    """A value that tells no way that goes by parts."""


class NotNow(VoiceError):
    """A line that the desk cannot take at this time."""


class NotText(VoiceError):
    """A value that is no string."""


class InvalidText(VoiceError):
    """A string that is not of the asked form."""


class NothingToUndo(VoiceError):
    """There is no voice to take back."""


class BadRow(VoiceError):
    """A value that is no row; index is None or the place of its first item that is no voice."""

    def __init__(self, index):
        VoiceError.__init__(self, f"not a row (index {index})")
        self.index = index


class BadTable(VoiceError):
    """A value that is no table; index is None or the place of its first item that is no voice."""

    def __init__(self, index):
        VoiceError.__init__(self, f"not a table (index {index})")
        self.index = index
