"""Samplers, which look once in each slot of a fixed number of ticks."""

from seenshares.errors import BadSampler
from seenshares.kinds import is_integer, is_integer_from

MOST_PERIOD = 8


class Sampler:
    """The ticks of a slot, the last place for a look in it, and where in its slot tick 0 stands."""

    def __init__(self, period, jitter=0, *, phase=0):
        if not is_integer_from(period, 1, MOST_PERIOD):
            raise BadSampler("period")
        if not is_integer_from(jitter, 0, period - 1):
            raise BadSampler("jitter")
        if phase is not None and not is_integer_from(phase, 0, period - 1):
            raise BadSampler("phase")
        self.period = period
        self.jitter = jitter
        self.phase = phase

    def __eq__(self, other):
        return (isinstance(other, Sampler) and self.period == other.period and self.jitter == other.jitter
                and self.phase == other.phase)

    def with_values(self, *, period=-1, jitter=-1, phase=-1):
        """A new sampler in which each value that is not the integer -1 is replaced."""
        return Sampler(new_or_kept(period, self.period), new_or_kept(jitter, self.jitter),
                       phase=new_or_kept(phase, self.phase))


def new_or_kept(new, kept):
    """The value kept if new is the integer -1, and else new."""
    if is_integer(new) and new == -1:
        return kept
    return new
