"""The refusals of loopwords."""


class LoopError(ValueError):
    """Any refusal."""


class BadProgram(LoopError):
    """What was handed in is no program."""


class BadFilling(LoopError):
    """What was handed in is no filling that may begin here."""


class NoLoop(LoopError):
    """What was handed in is no place of a loop."""
