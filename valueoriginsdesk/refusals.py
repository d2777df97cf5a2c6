"""The errors behind the refusals, one for each."""


class NotAProgram(Exception):
    """The text is not a program's."""


class NotAnInput(Exception):
    """The list has too many numbers for an input, or one that is too small or too large."""


class NoSuchStep(Exception):
    """The run has no step with this number."""


class NoSuchLine(Exception):
    """The program has no line with this number."""


class NotSomeLines(Exception):
    """The list has a number that is no line's, or its numbers do not rise."""
