"""Places, and the programs that go from place to place."""

from seenshares.errors import BadPlace, BadProgram, NoPlace
from seenshares.kinds import has_twins, is_flag, is_integer_from, is_name

MOST_TICKS = 6
MOST_PLACES = 6


class Place:
    """A place of a program: how long a stay may be, and whether looking is allowed."""

    def __init__(self, name, least=1, most=None, *, let=True):
        if not is_name(name):
            raise BadPlace("name")
        if not is_integer_from(least, 1, MOST_TICKS):
            raise BadPlace("least")
        if most is not None and not is_integer_from(most, least, MOST_TICKS):
            raise BadPlace("most")
        if not is_flag(let):
            raise BadPlace("let")
        self.name = name
        self.least = least
        self.most = least if most is None else most
        self.let = let

    def __eq__(self, other):
        return (isinstance(other, Place) and self.name == other.name and self.least == other.least
                and self.most == other.most and self.let == other.let)


class Program:
    """Some places, the ways that lead on from each of them, and the place of the start."""

    def __init__(self, places, nexts, *, start=None):
        if not are_places(places):
            raise BadProgram("places")
        names = tuple([place.name for place in places])
        if not are_nexts(nexts, names):
            raise BadProgram("nexts")
        if start is not None and not is_one_of(start, names):
            raise BadProgram("start")
        self.names = names
        self.start = names[0] if start is None else start
        self._places = {place.name: place for place in places}
        self._nexts = {name: nexts[name] for name in names}

    @property
    def nexts(self):
        """A new dict from each name to the tuple of its nexts."""
        return {name: self._nexts[name] for name in self.names}

    def __getitem__(self, at):
        if at not in self:
            raise NoPlace(at)
        return self._places[at]

    def __iter__(self):
        raise TypeError("a program is not iterated over, its names are")

    def __contains__(self, x):
        return is_one_of(x, self.names)

    def __len__(self):
        return len(self.names)

    def __eq__(self, other):
        return (isinstance(other, Program) and self.names == other.names and self._places == other._places
                and self._nexts == other._nexts and self.start == other.start)

    def with_let(self, names):
        """A new program in which exactly the places in the tuple names are let."""
        if not isinstance(names, tuple) or has_twins(names):
            raise BadProgram("let")
        for item in names:
            if item not in self:
                raise NoPlace(item)
        olds = [self._places[name] for name in self.names]
        places = [Place(old.name, old.least, old.most, let=old.name in names) for old in olds]
        return Program(places, self._nexts, start=self.start)


def is_one_of(x, names):
    """Tell whether x, of any kind, is one of the names."""
    return isinstance(x, str) and x in names


def are_places(places):
    """Tell whether places is a list or a tuple of 1 to 6 places with different names."""
    if not isinstance(places, (list, tuple)) or not 1 <= len(places) <= MOST_PLACES:
        return False
    if not all([isinstance(place, Place) for place in places]):
        return False
    return not has_twins([place.name for place in places])


def are_nexts(nexts, names):
    """Tell whether nexts is a dict from exactly the names to tuples of different names."""
    if not isinstance(nexts, dict) or len(nexts) != len(names):
        return False
    return all([name in nexts and is_choice(nexts[name], names) for name in names])


def is_choice(ways, names):
    """Tell whether ways is a tuple of different items of names."""
    if not isinstance(ways, tuple) or not all([is_one_of(way, names) for way in ways]):
        return False
    return not has_twins(ways)
