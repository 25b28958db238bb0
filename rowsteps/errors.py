"""The errors of the program."""


class RowstepsError(ValueError):
    """The base class of all errors that the program raises."""


class BadTable(RowstepsError):
    """A value is not a table, or not one with the number of rows that is needed."""


class BadNumber(RowstepsError):
    """A number is out of its range."""


class BadPlace(RowstepsError):
    """A place, or a pair of places, is not one of those that there are."""


class BadDevice(RowstepsError):
    """A value is not a device, or not one that is fit for the question."""


class BadState(RowstepsError):
    """A value is not a state of the device."""


class BadLot(RowstepsError):
    """A value is not a lot of states, or not an order of the states."""


class TooLarge(RowstepsError):
    """A device has, or would have, more states or a greater round than is allowed."""


class BadText(RowstepsError):
    """A text is not the text of a device."""


class BadPaper(RowstepsError):
    """A value is not a paper, or not one for the number of rows that is needed."""


class NotAlike(RowstepsError):
    """A table is not the identity modulo N."""


class TooLong(RowstepsError):
    """No paper was found within the bounds."""


class BadKind(RowstepsError):
    """A value is not the kind of a device with few states."""
