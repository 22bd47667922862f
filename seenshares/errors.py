"""The errors of the package."""


class SeenError(ValueError):
    """The base class of all errors of the package."""


class BadShare(SeenError):
    """A part of a share that is no integer, or a bottom that is 0."""

    def __init__(self, part):
        self.part = part


class NoShare(SeenError):
    """A quotient by 0, a share of nothing, or a value that is no number."""


class BadPlace(SeenError):
    """A part of a place that does not have its form."""

    def __init__(self, why):
        self.why = why


class BadProgram(SeenError):
    """A part of a program that does not have its form."""

    def __init__(self, why):
        self.why = why


class NoPlace(SeenError):
    """An object that is not the name of a place of the program."""

    def __init__(self, name):
        self.name = name


class BadSampler(SeenError):
    """A part of a sampler that does not have its form."""

    def __init__(self, why):
        self.why = why


class BadStay(SeenError):
    """A list of stays that is none (-1), or its first stay that is wrong."""

    def __init__(self, index):
        self.index = index


class BadPhase(SeenError):
    """A phase that does not fit the sampler."""

    def __init__(self, phase):
        self.phase = phase


class BadLook(SeenError):
    """A list of looks that is none (-1), or its first look that is wrong."""

    def __init__(self, index):
        self.index = index


class NoTicks(SeenError):
    """A run with no ticks, or with too many."""


class NoFocus(SeenError):
    """A focus that is none (-1), or its first item that is wrong."""

    def __init__(self, index):
        self.index = index


class NoState(SeenError):
    """An object that is not a state, or states that are not a road."""


class TooMany(SeenError):
    """More states that runs can reach than the limit."""

    def __init__(self, limit):
        self.limit = limit


class NoKnot(SeenError):
    """An object that is not the index of a knot."""

    def __init__(self, index):
        self.index = index


class NoCorner(SeenError):
    """An object that is not a corner of the polygon."""

    def __init__(self, corner):
        self.corner = corner


class NoSide(SeenError):
    """A direction or a side that is none."""


class NoRow(SeenError):
    """A row of notes that is none (-1), or its first item that is wrong."""

    def __init__(self, index):
        self.index = index


class NoWhat(SeenError):
    """An object that does not name a value to measure."""

    def __init__(self, what):
        self.what = what


class NoBound(SeenError):
    """A bound that is not a number."""


class NoSets(SeenError):
    """A program with too many closed places."""


class NoLeast(SeenError):
    """A number of ticks, or an excess, that is not in its limits."""


class NoCounts(SeenError):
    """A name or a number that cannot be counted."""

    def __init__(self, name):
        self.name = name


class BadChoice(SeenError):
    """A choice that is not possible behind so many ticks."""

    def __init__(self, index):
        self.index = index


class BadRun(SeenError):
    """A part of a run that cannot be written."""

    def __init__(self, part):
        self.part = part


class BadText(SeenError):
    """A text that cannot be read, by its first wrong line, or 0."""

    def __init__(self, line):
        self.line = line
