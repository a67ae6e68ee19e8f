"""The errors of the package, each directly under CellError."""


class CellError(ValueError):
    """Any error of the package."""


class BadKinds(CellError):
    """What was passed as kinds is none."""


class BadKind(CellError):
    """What was passed as a kind is no name of one."""


class BadProgram(CellError):
    """What was passed as a program has not the form of one."""


class NotChecked(CellError):
    """A program is not right; what tells what is wrong first, as check does."""

    def __init__(self, what):
        super().__init__("the program is not right")
        self.what = what


class BadArgs(CellError):
    """What was passed as arguments is none for the function."""


class BadName(CellError):
    """What was passed as a name is no name of a function."""


class BadLimit(CellError):
    """What was passed as a limit is no integer within the bounds."""


class BadPlacing(CellError):
    """What was passed as a placing has not the form of one of the program."""


class BadWay(CellError):
    """What was passed as a way is none of the function."""


class BadRow(CellError):
    """What was passed as a row is no place that is come to."""


class BadRegister(CellError):
    """What was passed for a register is no integer within the bounds."""


class NotRight(CellError):
    """A placing is not right; way tells the first way that falls."""

    def __init__(self, way):
        super().__init__("the placing is not right")
        self.way = way


class NotLet(CellError):
    """A step is none, or is not let; index tells which one."""

    def __init__(self, index):
        super().__init__("the step is not let")
        self.index = index


class BadLog(CellError):
    """What was passed as a log is none."""


class HasTokens(CellError):
    """A placing has tokens where none may stand."""


class TooGreat(CellError):
    """What was asked for is beyond what is promised."""


class BadText(CellError):
    """What was passed as a text is none; place tells where it goes wrong."""

    def __init__(self, place):
        super().__init__("the text is not right")
        self.place = place


class Unlike(CellError):
    """Two texts are of unlike programs."""
