"""The errors of the package: MixError, and all others directly under it."""


class MixError(ValueError):
    """Any error of the package."""


class BadForm(MixError):
    """An object is no program, definition or expression by its form."""


class BadText(MixError):
    """A text writes no program; place is where it can not go on."""

    def __init__(self, place):
        super().__init__(f"the text can not go on at {place}")
        self.place = place


class NoName(MixError):
    """A name is defined by no definition of the program."""


class BadName(MixError):
    """A name is none, or of another sort than it has to be."""


class Clash(MixError):
    """A name that has to be new stands in the program."""


class BadOrder(MixError):
    """What should put definitions in an order does not."""


class BadClass(MixError):
    """A name is that of no class that may stand here."""


class BadParts(MixError):
    """Parts are such that no object has them."""


class NoMember(MixError):
    """A class has no member of that name."""


class NotAbove(MixError):
    """A class is none of another one's order."""


class NotLetBy(MixError):
    """A program is not let by; what is what check tells of it."""

    def __init__(self, what):
        super().__init__(f"the program is not let by: {what}")
        self.what = what


class BadProgram(MixError):
    """The parents of a program are not in order; where is the class."""

    def __init__(self, where):
        super().__init__(f"the parents are not in order: {where}")
        self.where = where


class BadKind(MixError):
    """An object is no kind, or none that may stand here."""


class BadPlace(MixError):
    """An object is no place of the program."""


class BadPath(MixError):
    """A path can not be gone, or is too long."""


class NoParameter(MixError):
    """A class has no kind parameter of that name."""


class BadPatterns(MixError):
    """Objects are no patterns, or none that are let for the kind."""


class BadCount(MixError):
    """An object is no integer, or out of its bounds."""


class BadCore(MixError):
    """An object is no core."""


class TooMany(MixError):
    """There would be more of something than is told."""


class NothingToUndo(MixError):
    """A session has nothing that could be taken back."""


class Full(MixError):
    """A session has no place for one more."""


class BadNumber(MixError):
    """An object is no number of what a session holds."""


class BadCommand(MixError):
    """An object is no row that a desk takes."""
