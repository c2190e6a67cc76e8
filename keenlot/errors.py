"""The errors of the package."""


class KeenError(ValueError):
    """The base of all errors of the package."""


class InvalidLot(KeenError):
    """An argument that must be a lot is not one."""


class InvalidRow(KeenError):
    """An argument that must be a row or a heap is not one."""


class InvalidNumber(KeenError):
    """A need, tool, cap, count or number of steps is not an integer in its range."""


class InvalidOption(KeenError):
    """An option is not one of the words that the function knows."""


class InvalidList(KeenError):
    """An argument that must be a list does not have the required form."""


class InvalidDays(KeenError):
    """An argument that must be a list of days is not one."""


class InvalidEvents(KeenError):
    """An argument that must be a list of events is not one."""


class InvalidBook(KeenError):
    """An argument that must be a book is not one."""


class InvalidName(KeenError):
    """An argument that must be a name is not one."""


class TooLarge(KeenError):
    """A result or an argument exceeds a limit."""


class NothingToUndo(KeenError):
    """No change is left that can be taken back."""


class InvalidPicks(KeenError):
    """Picks cannot be followed: index is the first wrong one, None if the form is wrong."""

    def __init__(self, index=None):
        self.index = index


class MissingTool(KeenError):
    """A lot has too few tools of the sharpness tool."""

    def __init__(self, tool=None):
        self.tool = tool


class CannotDo(KeenError):
    """The lot cannot perform the task at index, on the given day if there are days."""

    def __init__(self, index=None, lot=None, day=None):
        self.index = index
        self.lot = lot
        self.day = day


class Impossible(KeenError):
    """A heap cannot be performed because of the given need."""

    def __init__(self, need=None):
        self.need = need


class TooSharp(KeenError):
    """A tool is sharper than the cap."""

    def __init__(self, tool=None):
        self.tool = tool


class UnknownName(KeenError):
    """A name is not kept."""

    def __init__(self, name=None):
        self.name = name


class DuplicateName(KeenError):
    """A name is kept already."""

    def __init__(self, name=None):
        self.name = name
