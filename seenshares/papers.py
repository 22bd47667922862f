"""Papers: prices of states that show how far the rings of a knot can go in a direction."""

from seenshares.errors import NoShare, NoSide
from seenshares.kinds import is_integer
from seenshares.knots import best_ring, knot_arcs, pick_knot
from seenshares.runs import check_focus
from seenshares.shares import Share, is_number
from seenshares.states import find_web


def paper(program, sampler, focus, knot, a, b):
    """The level of a knot in a direction, and prices of its states that show it."""
    check_focus(focus, program.names)
    check_direction(a, b)
    ways = find_web(program, sampler)
    held = pick_knot(ways, knot)
    ring, total, worths = best_ring(knot_arcs(held, ways, focus, sampler.period), a, b)
    prices = {state: Share(worths[at], len(ring)) for at, state in enumerate(held)}
    return Share(total, len(ring)), prices


def paper_fault(program, sampler, focus, knot, a, b, level, prices):
    """The first fault of a paper for a knot and a direction, or None."""
    check_focus(focus, program.names)
    check_direction(a, b)
    if not is_number(level):
        raise NoShare()
    ways = find_web(program, sampler)
    held = pick_knot(ways, knot)
    for state in held:
        if not isinstance(prices, dict) or state not in prices or not is_number(prices[state]):
            return ("lacks", state)
    for state, arc in zip(held, knot_arcs(held, ways, focus, sampler.period)):
        for to, (true, seen) in arc.items():
            if a * true + b * seen - level + prices[held[to]] > prices[state]:
                return ("step", state, held[to])
    return None


def check_direction(a, b):
    """Refuse a direction that is not two integers, or two that are 0."""
    if not is_integer(a) or not is_integer(b) or (a == 0 and b == 0):
        raise NoSide()
