"""Runs of a program under a sampler, their records, and the places in focus."""

from seenshares.errors import BadLook, BadPhase, BadStay, NoFocus, NoTicks
from seenshares.kinds import is_integer, is_integer_from
from seenshares.programs import is_one_of

MOST_RUN_TICKS = 2000


class Record:
    """What a run did and what its looks noted."""

    def __init__(self, ticks, times, notes, waiting, lost):
        self.ticks = ticks
        self.times = times
        self.notes = notes
        self.waiting = waiting
        self.lost = lost


def observe(program, sampler, stays, looks, *, phase=None):
    """The record of the run with these stays, and with its looks at these places of its slots."""
    check_stays(program, stays)
    check_phase(sampler, phase)
    first = phase if sampler.phase is None else sampler.phase
    ticks = sum([many for _, many in stays])
    check_looks(sampler, looks, first, first + ticks - 1)
    if ticks > MOST_RUN_TICKS:
        raise NoTicks()
    names = [name for name, many in stays for _ in range(many)]
    dues = [is_due(looks, first + tick, sampler.period) for tick in range(ticks)]
    return record_of(program, names, dues)


def times_of(record, focus):
    """The number of ticks of the record in places of the focus."""
    check_focus(focus, record.times)
    return sum([record.times[name] for name in focus])


def seen_of(record, focus, sampler):
    """The ticks in places of the focus as the notes of the record tell them."""
    check_focus(focus, record.times)
    return sampler.period * len([name for _, name in record.notes if name in focus])


def check_focus(focus, names):
    """Refuse a focus that is not a tuple of some different names."""
    if not isinstance(focus, tuple) or len(focus) == 0:
        raise NoFocus(-1)
    for at, item in enumerate(focus):
        if not is_one_of(item, names) or item in focus[:at]:
            raise NoFocus(at)


def check_stays(program, stays):
    """Refuse stays that are not a way through the program from its start."""
    if not isinstance(stays, list) or len(stays) == 0:
        raise BadStay(-1)
    nexts = program.nexts
    allowed = (program.start,)
    for at, stay in enumerate(stays):
        if not is_stay(program, stay) or stay[0] not in allowed:
            raise BadStay(at)
        place = program[stay[0]]
        # A run may stop at any tick, so the last stay may be short.
        least = 1 if at == len(stays) - 1 else place.least
        if not least <= stay[1] <= place.most:
            raise BadStay(at)
        allowed = nexts[stay[0]]


def is_stay(program, stay):
    """Tell whether stay is a tuple of the name of a place and an integer."""
    return isinstance(stay, tuple) and len(stay) == 2 and stay[0] in program and is_integer(stay[1])


def check_phase(sampler, phase):
    """Refuse a phase that is missing where the sampler has none, or that is not the sampler's."""
    if sampler.phase is None:
        fits = is_integer_from(phase, 0, sampler.period - 1)
    else:
        fits = phase is None or (is_integer(phase) and phase == sampler.phase)
    if not fits:
        raise BadPhase(phase)


def check_looks(sampler, looks, first, last):
    """Refuse looks that do not fit a run whose ticks count from first to last since its first slot began."""
    slots = last // sampler.period + 1
    if not isinstance(looks, list) or len(looks) != slots:
        raise BadLook(-1)
    for slot, look in enumerate(looks):
        low = first if slot == 0 else 0
        high = last % sampler.period if slot == slots - 1 else sampler.period - 1
        if not is_look(look, low, high, sampler.jitter):
            raise BadLook(slot)


def is_look(look, low, high, jitter):
    """Tell whether the look of a slot whose ticks have the places low to high can be this one."""
    if look is None:
        # It came due ahead of the run, or need not have come due when the run stops.
        return low > jitter or high < jitter
    return is_integer_from(look, low, high) and look <= jitter


def is_due(looks, spot, period):
    """Tell whether a look comes due at the tick that stands at this spot, counted since the first slot began."""
    return looks[spot // period] == spot % period


def record_of(program, names, dues):
    """The record of a run with these names of its ticks and these flags for the looks that come due."""
    notes = []
    waiting = False
    for tick, name in enumerate(names):
        waiting = waiting or dues[tick]
        if waiting and program[name].let:
            notes.append((tick, name))
            waiting = False
    times = {name: names.count(name) for name in program.names}
    lost = dues.count(True) - len(notes) - int(waiting)
    return Record(len(names), times, notes, waiting, lost)
