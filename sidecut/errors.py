"""The refusals of the program, each one straight under SideError."""


class SideError(ValueError):
    """What all refusals of the program are."""


class BadNumber(SideError):
    """A text that is no fraction's; made with words."""


class BadPath(SideError):
    """A text that is no path's; made with words."""


class BadSheet(SideError):
    """A sheet with a wrong row; row is the number of the first such, from 0."""

    def __init__(self, row):
        SideError.__init__(self, f"row {row} of the sheet is wrong")
        self.row = row
