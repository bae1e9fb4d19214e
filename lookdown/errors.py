"""The errors of the package: one class for each kind of failure."""


class LookError(ValueError):
    """What all errors of the package derive from."""


class BadBook(LookError):
    """A part of what should become a book is none."""

    def __init__(self, part):
        self.part = part


class BadWeb(LookError):
    """A value of what should become a web is none; -1 for the whole."""

    def __init__(self, index):
        self.index = index


class NoWeb(LookError):
    """This is no web of the book."""


class NoValue(LookError):
    """This is no value of the web."""


class BadText(LookError):
    """A line of a text is not written right; 0 for what is no string."""

    def __init__(self, line):
        self.line = line


class TooMany(LookError):
    """There are more than so many."""

    def __init__(self, most):
        self.most = most


class NoThing(LookError):
    """This is no thing of the web and the book."""


class NoWay(LookError):
    """This is no way."""


class NoWishes(LookError):
    """This is no lot of makeable things."""


class NoPlan(LookError):
    """This is no plan."""


class NoChoice(LookError):
    """This is no choice."""


class BadChooser(LookError):
    """A chooser returned what does not do for this thing."""

    def __init__(self, thing):
        self.thing = thing


class NoFences(LookError):
    """These are no fences."""


class NotBest(LookError):
    """The choice is not best."""


class BadProgram(LookError):
    """A part of what should become a program is none."""

    def __init__(self, part):
        self.part = part


class NoInputs(LookError):
    """These are no inputs of the program."""


class NoNumber(LookError):
    """This is no number that is let here."""


class NoBlock(LookError):
    """This is no block of the program."""


class NoChoices(LookError):
    """These are no choices for the blocks."""


class NoCode(LookError):
    """A wish of this block is not makeable."""

    def __init__(self, block):
        self.block = block


class NoWish(LookError):
    """This is not wished."""


class NothingDone(LookError):
    """There is nothing to take back, or to do again."""


class NoText(LookError):
    """This is no string."""


class NoLimits(LookError):
    """These are no limits."""


class NoScript(LookError):
    """This is no script."""


class NoKind(LookError):
    """This is no kind of the book."""


class NotRunning(LookError):
    """There is no run, or it is over."""
