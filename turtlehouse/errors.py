"""The refusals of the house, each with a class of its own."""


class HouseError(ValueError):
    """What every refusal of the house is made from."""


class NoProgram(HouseError):
    """A thing is no program."""


class NoText(HouseError):
    """A text is not just as a program is written."""


class NoMark(HouseError):
    """The hand is to go back to a mark that was not made."""


class TooGreat(HouseError):
    """A number is beyond its bound."""


class TooLong(HouseError):
    """A run, a program or a drawing is longer than is allowed."""


class NotWhole(HouseError):
    """A stroke is not a whole number of steps long."""
