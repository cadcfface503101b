"""The refusals: all of them stand straight under SureError."""


class SureError(ValueError):
    """What every refusal is."""


class NoProgram(SureError):
    """A text that is no program's; made with a text that says why."""


class NoRow(SureError):
    """A row that can't be answered; row is its number."""

    def __init__(self, row):
        self.row = row
