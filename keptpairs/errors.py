"""The errors of the package, each with the fields that tell what was wrong."""


class OrderError(ValueError):
    """The base of all errors of the package."""


class InvalidPair(OrderError):
    """Something stands where a tuple of two kinds belongs."""

    def __init__(self, pair):
        # The item may be anything, so the message does not try to show it.
        OrderError.__init__(self, "this is not a tuple of two kinds")
        self.pair = pair


class InvalidBook(OrderError):
    """A book was given a fence under a name that it cannot have."""

    def __init__(self, name):
        OrderError.__init__(self, f"{name!r} cannot name a further fence")
        self.name = name


class InvalidProgram(OrderError):
    """An instruction of a program is not valid."""

    def __init__(self, thread, index):
        OrderError.__init__(self, f"instruction {index} of thread {thread} is not valid")
        self.thread = thread
        self.index = index


class UnknownName(OrderError):
    """A name is not known where it is used."""

    def __init__(self, name):
        OrderError.__init__(self, f"{name!r} is not known here")
        self.name = name


class NotALine(OrderError):
    """A list is not a line of the program in the book."""

    def __init__(self, line):
        # The list may hold anything, so the message does not try to show it.
        OrderError.__init__(self, "this is not a line of the program")
        self.line = line


class InvalidRow(OrderError):
    """A row of a table does not have the form that its name asks for."""

    def __init__(self, name):
        OrderError.__init__(self, f"this is not a row for {name!r}")
        self.name = name


class Mismatch(OrderError):
    """Two tables do not have the same kind in the rows of a name."""

    def __init__(self, name):
        OrderError.__init__(self, f"the two tables differ at {name!r}")
        self.name = name


class InvalidPrice(OrderError):
    """A kind or a fence has no valid price."""

    def __init__(self, name):
        OrderError.__init__(self, f"{name!r} has no valid price")
        self.name = name


class NotKept(OrderError):
    """A step of a table is lost."""

    def __init__(self, step):
        OrderError.__init__(self, "this step of the table is lost")
        self.step = step


class LetBy(OrderError):
    """A table is not right: it lets an outcome by that its source does not allow."""

    def __init__(self, witness):
        OrderError.__init__(self, "the table is not right")
        self.witness = witness
