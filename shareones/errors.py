"""The refusals: each one's class stands straight under OnesError."""


class OnesError(ValueError):
    """What all refusals of this package are."""


class Unlike(OnesError):
    """Rows that must be of one length are not."""


class NoSuch(OnesError):
    """Nothing is as it is asked for."""


class NoOne(OnesError):
    """A row that must have a 1 has none."""


class NoRound(OnesError):
    """A machine does not settle soon enough."""


class BadText(OnesError):
    """A text is not the text of any such thing."""


class BadSheet(OnesError):
    """A row of a sheet is not as rows of sheets are; `row` is its number."""

    def __init__(self, row):
        OnesError.__init__(self, f"row {row} of the sheet is not so written, or asks for what is not there")
        self.row = row
