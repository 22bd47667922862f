"""The states in which a run can be at a tick, the steps between them, and the web of all that runs can reach."""

from seenshares.errors import NoState, TooMany
from seenshares.kinds import is_flag, is_integer_from

MOST_STATES = 300


def first_states(program, sampler):
    """The pairs (state, noted) that tick 0 can have, in ascending order."""
    phases = list(range(sampler.period)) if sampler.phase is None else [sampler.phase]
    place = program[program.start]
    pairs = []
    for phase in phases:
        # A look that came due ahead of tick 0 leaves nothing waiting.
        came = phase > sampler.jitter
        for due in look_flags(sampler, phase, came):
            pairs.append(pair_at(place, 1, phase, came or due, due))
    return sorted(set(pairs))


def steps(program, sampler, state):
    """The pairs (next state, noted) that can follow a state, in ascending order."""
    check_state(program, sampler, state)
    return pairs_behind(program, sampler, state)


def reached(program, sampler):
    """Yield the states that runs can reach, in ascending order."""
    ways = find_web(program, sampler)
    for state in ways:
        yield state


def reach(program, sampler):
    """The number of states that runs can reach."""
    return len(find_web(program, sampler))


def find_web(program, sampler):
    """A dict from each state that runs can reach to a dict from each next state to its flag noted.

    The keys of all these dicts are in ascending order.
    """
    ways = {}
    waiting = [state for state, _ in first_states(program, sampler)]
    while waiting:
        state = waiting.pop()
        if state not in ways:
            if len(ways) == MOST_STATES:
                raise TooMany(MOST_STATES)
            ways[state] = {after: noted for after, noted in pairs_behind(program, sampler, state)}
            waiting.extend(list(ways[state]))
    return {state: ways[state] for state in sorted(set(ways))}


def check_state(program, sampler, state):
    """Refuse what does not have the form of a state of the program and the sampler."""
    if not is_state(program, sampler, state):
        raise NoState()


def is_state(program, sampler, state):
    """Tell whether an object of any kind has the form of a state of the program and the sampler."""
    if not isinstance(state, tuple) or len(state) != 5:
        return False
    name, spent, slot, done, waits = state
    if name not in program or not is_integer_from(spent, 1, program[name].most):
        return False
    if not is_integer_from(slot, 0, sampler.period - 1) or not is_flag(done) or not is_flag(waits):
        return False
    if slot >= sampler.jitter and not done:
        return False
    return not (waits and program[name].let)


def pairs_behind(program, sampler, state):
    """The pairs (next state, noted) that can follow, in ascending order."""
    name, spent, slot, done, waits = state
    spot = (slot + 1) % sampler.period
    # Behind the last place of a slot a new one begins, whose look has not come due.
    came = done and spot != 0
    pairs = []
    for place, ticks in moves(program, name, spent):
        for due in look_flags(sampler, spot, came):
            pairs.append(pair_at(place, ticks, spot, came or due, waits or due))
    return sorted(set(pairs))


def moves(program, name, spent):
    """The pairs (place, spent) with which the next tick can go on behind a tick of a stay."""
    place = program[name]
    found = []
    if spent < place.most:
        found.append((place, spent + 1))
    if spent >= place.least:
        found.extend([(program[after], 1) for after in program.nexts[name]])
    return found


def look_flags(sampler, spot, came):
    """The flags that say whether the look of a slot can come due at this place of it, as it came before or not."""
    if came:
        return (False,)
    if spot == sampler.jitter:
        return (True,)
    return (False, True)


def pair_at(place, spent, slot, done, waits):
    """The pair (state, noted) of a tick, where waits tells whether a look waits at it, ahead of its note."""
    return (place.name, spent, slot, done, waits and not place.let), waits and place.let
