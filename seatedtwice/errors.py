"""The errors of the package, each made from its fields, which it keeps as attributes."""


class SeatError(ValueError):
    """What all errors of the package derive from."""


class BadScene(SeatError):
    """A line of the text of a scene is wrong."""

    def __init__(self, line):
        super().__init__(f"line {line} of the scene is wrong")
        self.line = line


class BadWorld(SeatError):
    """A line of the text of a world is wrong or lacking."""

    def __init__(self, line):
        super().__init__(f"line {line} of the world is wrong or lacking")
        self.line = line


class BadScript(SeatError):
    """A line of the text of a script is wrong or lacking."""

    def __init__(self, line):
        super().__init__(f"line {line} of the script is wrong or lacking")
        self.line = line


class BadSaying(SeatError):
    """A word of a saying is wrong or lacking."""

    def __init__(self, index):
        super().__init__(f"word {index} of the saying is wrong or lacking")
        self.index = index


class BadWalk(SeatError):
    """A word of a plain walk is wrong."""

    def __init__(self, index):
        super().__init__(f"word {index} of the walk is wrong")
        self.index = index


class NoThing(SeatError):
    """A name is no thing of the world."""

    def __init__(self, name):
        super().__init__(f"there is no thing {name!r}")
        self.name = name


class NoRow(SeatError):
    """A name is no row of the scene."""

    def __init__(self, name):
        super().__init__(f"there is no row {name!r}")
        self.name = name


class NoMark(SeatError):
    """A name is no mark of the scene."""

    def __init__(self, name):
        super().__init__(f"there is no mark {name!r}")
        self.name = name


class NoLots(SeatError):
    """The scene has no lots."""


class BadInputs(SeatError):
    """An input is too much, lacks, or is neither None nor a thing of the world."""

    def __init__(self, index):
        super().__init__(f"input {index} is wrong or lacking")
        self.index = index


class OtherScene(SeatError):
    """Things over different scenes are used together."""


class Unlike(SeatError):
    """Two scripts have not as many inputs or outputs as is asked."""


class NotBare(SeatError):
    """A saying is not bare."""

    def __init__(self, index):
        super().__init__(f"saying {index} is not bare")
        self.index = index


class BadName(SeatError):
    """A text is no name."""

    def __init__(self, name):
        super().__init__(f"{name!r} is no name")
        self.name = name


class NoButton(SeatError):
    """The hall has no button of this name."""

    def __init__(self, name):
        super().__init__(f"there is no button {name!r}")
        self.name = name


class Taken(SeatError):
    """The hall has a guard of this name already."""

    def __init__(self, name):
        super().__init__(f"there is a guard {name!r} already")
        self.name = name


class NoGuard(SeatError):
    """The hall has no guard of this name."""

    def __init__(self, name):
        super().__init__(f"there is no guard {name!r}")
        self.name = name


class Barred(SeatError):
    """Guards would be false, or are false now."""

    def __init__(self, names):
        self.names = list(names)
        super().__init__(f"guards stand against it: {self.names}")


class NothingToUndo(SeatError):
    """No change of the hall is left to undo."""
