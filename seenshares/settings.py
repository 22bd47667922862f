"""Settings of a sampler or a program with which a value is within a bound."""

from seenshares.bounds import hidden, over, under
from seenshares.errors import NoBound, NoSets, NoWhat
from seenshares.runs import check_focus
from seenshares.samplers import MOST_PERIOD
from seenshares.shares import is_number

WHATS = ("hidden", "over", "under")
MOST_CLOSED = 4


def measure(program, sampler, focus, what):
    """The value of the function of this name, a share or None."""
    check_focus(focus, program.names)
    check_what(what)
    if what == "hidden":
        return hidden(program, sampler, focus)
    if what == "over":
        return over(program, sampler, focus)
    return under(program, sampler, focus)


def jitters_within(program, sampler, focus, what, bound):
    """The jitters below the period with which the value is within the bound."""
    check_question(program, focus, what, bound)
    return [jitter for jitter in range(sampler.period)
            if is_within(program, sampler.with_values(jitter=jitter), focus, what, bound)]


def periods_within(program, sampler, focus, what, bound):
    """The periods above the jitter and the phase with which the value is within the bound."""
    check_question(program, focus, what, bound)
    return [period for period in range(1, MOST_PERIOD + 1) if has_room(sampler, period)
            and is_within(program, sampler.with_values(period=period), focus, what, bound)]


def lets(program, sampler, focus, what, bound):
    """The sets of the fewest closed places such that the value is within the bound if these are let, too."""
    check_question(program, focus, what, bound)
    closed = [name for name in sorted(set(program.names)) if not program[name].let]
    if len(closed) > MOST_CLOSED:
        raise NoSets()
    lit = tuple([name for name in program.names if program[name].let])
    # All sets are asked before the fewest names are taken, because a web of any of them may be too large.
    fitting = [names for names in all_sets(closed)
               if is_within(program.with_let(lit + names), sampler, focus, what, bound)]
    for many in range(len(closed) + 1):
        found = [names for names in fitting if len(names) == many]
        if len(found) > 0:
            return sorted(set(found))
    return []


def check_question(program, focus, what, bound):
    """Refuse a wrong focus, then what does not name a value, then a bound that is not a number."""
    check_focus(focus, program.names)
    check_what(what)
    if not is_number(bound):
        raise NoBound()


def check_what(what):
    """Refuse what does not name a value."""
    if not isinstance(what, str) or what not in WHATS:
        raise NoWhat(what)


def is_within(program, sampler, focus, what, bound):
    """Tell whether the value is None or at most the bound."""
    value = measure(program, sampler, focus, what)
    return value is None or value <= bound


def has_room(sampler, period):
    """Tell whether the jitter and the phase of the sampler are below the period."""
    return sampler.jitter < period and (sampler.phase is None or sampler.phase < period)


def all_sets(names):
    """All tuples of some of the names, each in the order of the names."""
    found = [()]
    for name in names:
        found = found + [held + (name,) for held in found]
    return found
