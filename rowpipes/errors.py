"""The refusals: one class each, all straight under PipeError."""


class PipeError(ValueError):
    """Any refusal."""


class NoText(PipeError):
    """What is to be read is not written as it should be."""


class NoPlace(PipeError):
    """There is no such place, or nothing can be told of it."""


class TooMany(PipeError):
    """More ways, rows or leaves than are looked at."""


class NoStep(PipeError):
    """The step can't be done."""


class NoLine(PipeError):
    """The desk has no such row."""


class Unknown(PipeError):
    """No pipe is called so."""


class NoPipe(PipeError):
    """The pipe can't be put together: at which place, and why."""

    def __init__(self, place, why):
        self.place = place
        self.why = why


class Falls(PipeError):
    """A worker can't take a cell: at which place, and of which row."""

    def __init__(self, place, row):
        self.place = place
        self.row = row


class Falling(PipeError):
    """The pipe is not let by: at which place it falls, and at which rows."""

    def __init__(self, place, rows):
        self.place = place
        # A copy: the list that was handed in stays its owner's.
        self.rows = list(rows)
