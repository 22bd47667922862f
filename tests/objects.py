"""Objects of every kind, for the tests of what is refused."""

from seenshares.counts import Counts
from seenshares.live import Profile
from seenshares.programs import Place, Program
from seenshares.samplers import Sampler
from seenshares.shares import Share


def others(*kinds):
    """One or more objects of each built-in kind and of classes of the package, except those of the kinds."""
    everything = [
        None, True, False, 0, 1, -1, 10 ** 99, 1.0, float("nan"), 1j,
        "", "a", "zz", "a b", "1", b"", b"a", bytearray(b"a"), memoryview(b"a"),
        (), ("a",), (1, 2), [], ["a"], [1, [2]], {}, {"a": ()}, {1: 2}, set(), {"a"}, frozenset(["a"]),
        range(3), slice(1), Ellipsis, NotImplemented, object(), int, str, len, others, iter([]), (x for x in ()),
        ValueError("a"), Share(1), Share(1, 2), Place("a"), Program([Place("a")], {"a": ()}), Sampler(2),
        Counts("a"), Profile(Program([Place("a")], {"a": ()}), Sampler(2)),
    ]
    return [thing for thing in everything if type(thing) not in kinds]
