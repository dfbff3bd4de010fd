"""The errors that the package raises."""


class GlassError(ValueError):
    """The base class of all errors of the package."""


class BadText(GlassError):
    """A text that writes no value; place is the number of signs ahead of the wrong one."""

    def __init__(self, place):
        GlassError.__init__(self, f"the text is wrong behind {place} signs")
        self.place = place


class BadProgram(GlassError):
    """A value that is no good program; function is the number of the first wrong function."""

    def __init__(self, function):
        GlassError.__init__(self, f"function {function} of the program is not good")
        self.function = function


class BadInputs(GlassError):
    """A number of inputs or of programs, or a word, that does not fit."""
