"""How far the ticks in the focus and those that the notes tell can be from each other in runs of any length."""

from seenshares.errors import NoBound, NoLeast, NoSide
from seenshares.kinds import is_integer, is_integer_from
from seenshares.knots import best_ring, counts_of_step, knot_arcs, split_web
from seenshares.rings import run_of
from seenshares.runs import check_focus
from seenshares.shares import greatest
from seenshares.states import find_web, first_states

# How often the ticks in the focus, and those that the notes tell, count in the excess for each side.
SIDES = {"over": (-1, 1), "under": (1, -1)}
MOST_LEAST = 60
MOST_SEARCHED_TICKS = 200


def excess(program, sampler, focus, side):
    """The greatest excess of any run as ("most", n), or ("endless",)."""
    worths = certificate(program, sampler, focus, side)
    if worths is None:
        return ("endless",)
    gains = gains_of_starts(program, sampler, focus, side)
    return ("most", greatest([gains[state] + worths[state] for state in gains]))


def worst(program, sampler, focus, side, least):
    """A run of the fewest ticks whose excess is at least this, or None if it needs too many ticks."""
    check_focus(focus, program.names)
    check_side(side)
    if not is_integer_from(least, 0, MOST_LEAST):
        raise NoLeast()
    gains = gains_of_steps(find_web(program, sampler), focus, sampler.period, side)
    sums = gains_of_starts(program, sampler, focus, side)
    layers = []
    for _ in range(MOST_SEARCHED_TICKS):
        for state in sums:
            if sums[state] >= least:
                return run_of(road_through(layers, state), sampler)
        sums, befores = sums_behind(sums, gains)
        layers.append(befores)
    return None


def certificate(program, sampler, focus, side):
    """A dict from each reached state to the greatest excess that ways on from it can add, or None if it is endless."""
    check_focus(focus, program.names)
    check_side(side)
    ways = find_web(program, sampler)
    if is_endless(ways, focus, sampler.period, side):
        return None
    return best_ahead(gains_of_steps(ways, focus, sampler.period, side), {state: 0 for state in ways})


def certificate_fault(program, sampler, focus, side, certificate, most):
    """The first fault of a certificate that no run has an excess above most, or None."""
    check_focus(focus, program.names)
    check_side(side)
    if not is_integer(most):
        raise NoBound()
    ways = find_web(program, sampler)
    for state in ways:
        if not isinstance(certificate, dict) or state not in certificate or not is_integer(certificate[state]):
            return ("lacks", state)
    for state in ways:
        if certificate[state] < 0:
            return ("stop", state)
    starts = gains_of_starts(program, sampler, focus, side)
    for state in starts:
        if starts[state] + certificate[state] > most:
            return ("begin", state)
    gains = gains_of_steps(ways, focus, sampler.period, side)
    for state in gains:
        for after in gains[state]:
            if gains[state][after] + certificate[after] > certificate[state]:
                return ("step", state, after)
    return None


def check_side(side):
    """Refuse what is neither of the two sides."""
    if not isinstance(side, str) or side not in SIDES:
        raise NoSide()


def is_endless(ways, focus, period, side):
    """Tell whether a ring of the web adds to the excess, so that runs can go round it again and again."""
    a, b = SIDES[side]
    return any([best_ring(knot_arcs(held, ways, focus, period), a, b)[1] > 0 for held in split_web(ways)])


def gain_of_tick(state, noted, focus, period, side):
    """What a tick in this state adds to the excess."""
    true, seen = counts_of_step(state, noted, focus, period)
    a, b = SIDES[side]
    return a * true + b * seen


def gains_of_starts(program, sampler, focus, side):
    """A dict from each start state, in ascending order, to what tick 0 adds to the excess."""
    return {state: gain_of_tick(state, noted, focus, sampler.period, side)
            for state, noted in first_states(program, sampler)}


def gains_of_steps(ways, focus, period, side):
    """A dict from each state of the web to a dict from each next state to what the step adds to the excess."""
    return {state: {after: gain_of_tick(after, noted, focus, period, side) for after, noted in ways[state].items()}
            for state in ways}


def best_ahead(gains, worths):
    """New worths: the greatest sum of gains over all ways on from each key of gains to one that has a worth.

    The worth at the end of the way is added. No ring has a sum of gains above 0.
    """
    best = {at: worths[at] for at in worths}
    has_grown = True
    while has_grown:
        has_grown = False
        for at, row in gains.items():
            for after, gain in row.items():
                if after in best and (at not in best or gain + best[after] > best[at]):
                    best[at] = gain + best[after]
                    has_grown = True
    return best


def sums_behind(sums, gains):
    """One tick later, for each key that can come, the greatest sum of gains, and the key ahead of it that gives it."""
    later = {}
    befores = {}
    for at, total in sums.items():
        for after, gain in gains[at].items():
            if after not in later or total + gain > later[after]:
                later[after] = total + gain
                befores[after] = at
    return later, befores


def road_through(layers, state):
    """The road to a state, where each layer tells the state ahead of each one, from tick to tick."""
    road = [state]
    for befores in layers[::-1]:
        road.append(befores[road[-1]])
    return road[::-1]
