"""The refusals of the program."""


class RunError(ValueError):
    """What every refusal stands under."""


class NoNumber(RunError):
    """No row has the number."""


class NoRow(RunError):
    """The row is none of those that were asked for."""


class NoWindow(RunError):
    """The window is too narrow to tell the bits."""


class BadBits(RunError):
    """The bits can't be parted into blocks."""


class BadBlock(RunError):
    """A block is none that a table writes; its number, from 0, is kept."""

    def __init__(self, block):
        self.block = block
