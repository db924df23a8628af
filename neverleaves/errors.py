"""All errors that the program raises."""


class ControlError(ValueError):
    """The base class of all errors that the program raises."""


class InvalidExpression(ControlError):
    """An expression or a condition is not valid."""


class InvalidPlant(ControlError):
    """A plant is not valid."""


class InvalidArena(ControlError):
    """An arena is not right."""


class InvalidGoal(ControlError):
    """A goal is not right for its arena."""


class BadText(ControlError):
    """A text is not right at a line and a column, both numbered from 1."""

    # Python keeps both arguments by itself and shows them as the message.
    def __init__(self, line, column):
        self.line = line
        self.column = column


class NoPosition(ControlError):
    """An arena has no such position."""


class Held(ControlError):
    """A loop is held."""


class NotHeld(ControlError):
    """A loop is not held."""


class BadReply(ControlError):
    """A reply is not one of the successors of the option."""


class Lost(ControlError):
    """A position would belong to the disturbance, or a pick would give it one."""
