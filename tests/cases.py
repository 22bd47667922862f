"""Small programs and samplers for the tests, and what the words of the document say of their runs.

What stands here is told from all runs of some ticks, one by one, without the web of states.
"""

from itertools import product

from seenshares.programs import Place, Program
from seenshares.samplers import Sampler


def program_of(text, start=None):
    """A program of lines like "a 1 2 open b a": the name, the least and the most ticks, open or closed, the nexts."""
    places, nexts = [], {}
    for line in text.split(","):
        name, least, most, kind, *ways = line.split()
        places.append(Place(name, int(least), int(most), let=kind == "open"))
        nexts[name] = tuple(ways)
    return Program(places, nexts, start=start)


PROGRAMS = [
    program_of("a 1 1 open b, b 1 2 open a"),
    program_of("a 1 2 open b, b 1 2 closed a"),
    program_of("a 1 1 open b, b 1 1 closed a"),
    program_of("a 1 1 closed b a, b 1 1 open a"),
    program_of("a 1 1 closed a"),
    program_of("a 2 3 open"),
    program_of("a 1 2 closed b, b 2 2 open c, c 1 1 closed"),
    program_of("a 1 1 open b c, b 1 3 closed b, c 2 2 open c a"),
    program_of("a 1 2 open b, b 3 3 closed a, c 1 1 open a", start="c"),
]
SAMPLERS = [
    Sampler(1), Sampler(2), Sampler(2, 1), Sampler(2, phase=1), Sampler(2, 1, phase=1), Sampler(3), Sampler(3, 1),
    Sampler(3, 2, phase=2), Sampler(3, 1, phase=2), Sampler(1, phase=None), Sampler(2, phase=None),
    Sampler(2, 1, phase=None), Sampler(3, 1, phase=None), Sampler(4, 2, phase=None),
]
CASES = [(program, sampler) for program in PROGRAMS for sampler in SAMPLERS]


def show(program, sampler):
    """What a failure has to tell of a case."""
    places = [(place.name, place.least, place.most, place.let) for place in (program[name] for name in program.names)]
    return places, program.nexts, program.start, vars(sampler)


def error_of(kind, *given, **more):
    """The attributes of the error of just this kind that the first of the given things, called, raises."""
    call, *rest = given
    try:
        call(*rest, **more)
    except Exception as error:
        assert type(error) is kind, (type(error), vars(error))
        return vars(error)
    raise AssertionError(f"no error, but {kind.__name__} was due")


def all_stays(program, ticks, name=None):
    """All lists of stays of a run, or of what is left of it from the place of this name on."""
    name = program.start if name is None else name
    place = program[name]
    found = [[(name, ticks)]] if ticks <= place.most else []
    for spent in range(place.least, min(place.most, ticks - 1) + 1):
        for after in program.nexts[name]:
            found += [[(name, spent), *rest] for rest in all_stays(program, ticks - spent, after)]
    return found


def all_looks(sampler, phase, ticks):
    """All lists of looks of a run of so many ticks."""
    slots = {}
    for tick in range(ticks):
        slots.setdefault((phase + tick) // sampler.period, []).append((phase + tick) % sampler.period)
    options = []
    for slot, spots in slots.items():
        if slot == 0 and phase > sampler.jitter:
            options.append([None])
        else:
            mine = [spot for spot in spots if spot <= sampler.jitter]
            options.append(mine + ([None] if slot == max(slots) and max(spots) < sampler.jitter else []))
    return [list(looks) for looks in product(*options)]


def all_runs(program, sampler, ticks):
    """All runs (phase, stays, looks) of so many ticks."""
    for phase in range(sampler.period) if sampler.phase is None else [sampler.phase]:
        for stays in all_stays(program, ticks):
            for looks in all_looks(sampler, phase, ticks):
                yield phase, stays, looks


def short_runs(program, sampler, most):
    """All runs of at most so many ticks, each with the five attributes of its record, in ascending order of ticks."""
    for ticks in range(1, most + 1):
        for run in all_runs(program, sampler, ticks):
            yield run, record_by_words(program, sampler, *run)


def tick_rows(stays):
    """For each tick of the run (name, spent)."""
    return [(name, spent) for name, ticks in stays for spent in range(1, ticks + 1)]


def due_ticks(sampler, phase, looks):
    """The ticks at which looks come due."""
    return [slot * sampler.period + look - phase for slot, look in enumerate(looks) if look is not None]


def note_ticks(program, names, dues):
    """For each look that comes due the tick of the note that it is in, or None."""
    lets = [tick for tick, name in enumerate(names) if program[name].let]
    return [min((tick for tick in lets if tick >= due), default=None) for due in dues]


def record_by_words(program, sampler, phase, stays, looks):
    """The five attributes of the record of a run."""
    names = [name for name, _ in tick_rows(stays)]
    told = note_ticks(program, names, due_ticks(sampler, phase, looks))
    noted = sorted({tick for tick in told if tick is not None})
    own = len({tick for tick in told})
    times = {name: names.count(name) for name in program.names}
    return [len(names), times, [(tick, names[tick]) for tick in noted], None in told, len(told) - own]


def road_by_words(program, sampler, phase, stays, looks):
    """The states of a run, each with the flag whether its tick writes a note."""
    rows = tick_rows(stays)
    dues = due_ticks(sampler, phase, looks)
    told = note_ticks(program, [name for name, _ in rows], dues)
    road = []
    for tick, (name, spent) in enumerate(rows):
        slot, spot = divmod(phase + tick, sampler.period)
        ahead = slot == 0 and phase > sampler.jitter
        done = ahead or any((phase + due) // sampler.period == slot and due <= tick for due in dues)
        waits = any(due <= tick and (note is None or note > tick) for due, note in zip(dues, told))
        road.append(((name, spent, spot, done, waits), tick in told))
    return road


def all_states(program, sampler):
    """All states of the program and the sampler, also those that no run can reach, in ascending order."""
    found = []
    for name in program.names:
        for state in product([name], range(1, program[name].most + 1), range(sampler.period), *[(False, True)] * 2):
            if (state[3] or state[2] < sampler.jitter) and not (state[4] and program[name].let):
                found.append(state)
    return sorted(found)


def woven(kind, *mosts):
    """A program in which each place is followed by all, with stays from one tick to these numbers of ticks."""
    names = "abcdef"[:len(mosts)]
    return program_of(",".join(f"{name} 1 {most} {kind} {' '.join(names)}" for name, most in zip(names, mosts)))


# The greatest web that is not too large, and one that is too large by one state.
FULL = woven("closed", 2, 3, 4, 4, 5), Sampler(7, 6)
OVER = woven("closed", 2, 4, 4, 4, 4), Sampler(7, 6)
# Webs that are much too large.
LARGE = [OVER, (woven("open", 6, 6, 6, 6, 6, 6), Sampler(8, 7, phase=None)),
         (woven("closed", 6, 6, 6, 6, 6, 6), Sampler(8, 7))]
