"""Counts of notes by name."""

from seenshares.errors import NoCounts, NoShare
from seenshares.kinds import is_integer, is_name
from seenshares.shares import Share


class Counts:
    """A number of notes for each name, of which all but a few are 0."""

    def __init__(self, *names):
        numbers = {}
        for name in names:
            if not is_name(name):
                raise NoCounts(name)
            numbers[name] = numbers.get(name, 0) + 1
        # Only the names whose number is above 0 are keys, here and later.
        self._numbers = numbers

    def __getitem__(self, at):
        if not is_name(at):
            raise NoCounts(at)
        return self._numbers.get(at, 0)

    def __iter__(self):
        raise TypeError("counts are not iterated over, the list of their present names is")

    def __setitem__(self, at, worth):
        if not is_name(at) or not is_integer(worth) or worth < 0:
            raise NoCounts(at)
        self._numbers[at] = worth
        if worth == 0:
            del self._numbers[at]

    def __iadd__(self, other):
        if isinstance(other, Counts):
            more = other
        elif isinstance(other, (list, tuple)):
            more = Counts(*other)
        else:
            return NotImplemented
        self._numbers = sums_of(self._numbers, more._numbers)
        return self

    def __add__(self, other):
        if not isinstance(other, Counts):
            return NotImplemented
        return counts_with(sums_of(self._numbers, other._numbers))

    def __sub__(self, other):
        if not isinstance(other, Counts):
            return NotImplemented
        for name in other.present():
            if self[name] < other[name]:
                raise NoCounts(name)
        return counts_with({name: self[name] - other[name] for name in self._numbers})

    def __mul__(self, other):
        if not is_integer(other):
            return NotImplemented
        if other < 0:
            raise NoCounts(other)
        return counts_with({name: self._numbers[name] * other for name in self._numbers})

    def __rmul__(self, other):
        return self * other

    def __le__(self, other):
        if not isinstance(other, Counts):
            return NotImplemented
        return all([self._numbers[name] <= other[name] for name in self._numbers])

    def __eq__(self, other):
        return isinstance(other, Counts) and self._numbers == other._numbers

    def __contains__(self, x):
        return is_name(x) and x in self._numbers

    def __len__(self):
        return len(self._numbers)

    def present(self):
        """The names whose number is above 0, in ascending order."""
        return sorted(set(self._numbers))

    def total(self):
        """The sum of all numbers."""
        return sum([self._numbers[name] for name in self._numbers])

    def share(self, names):
        """The share of the notes of these names, each of which counts once, among all notes."""
        for item in names:
            if not is_name(item):
                raise NoCounts(item)
        if self.total() == 0:
            raise NoShare()
        return Share(sum([self[name] for name in sorted(set(names))]), self.total())


def counts_of(record):
    """The counts of the names of a record's notes."""
    names = [name for _, name in record.notes]
    return Counts(*names)


def counts_with(numbers):
    """A new Counts object with these numbers of names."""
    made = Counts()
    made._numbers = {name: numbers[name] for name in numbers if numbers[name] > 0}
    return made


def sums_of(numbers, more):
    """A new dict with the sums of two dicts of numbers of names."""
    names = list(numbers) + [name for name in more if name not in numbers]
    return {name: numbers.get(name, 0) + more.get(name, 0) for name in names}
