"""Rings, which are runs that repeat, and roads, which are runs as lists of states."""

from seenshares.errors import NoCorner, NoState, NoTicks
from seenshares.knots import counts_of_step, knot_arcs, pick_knot
from seenshares.polygons import is_same, ring_pair, rings_at_corners
from seenshares.runs import MOST_RUN_TICKS, check_focus
from seenshares.shares import is_number
from seenshares.states import check_state, find_web, first_states, is_state, pairs_behind


def ring(program, sampler, focus, knot, corner):
    """A ring of the knot whose pair is this corner of its polygon."""
    check_focus(focus, program.names)
    ways = find_web(program, sampler)
    held = pick_knot(ways, knot)
    if is_pair(corner):
        for pair, spots in rings_at_corners(knot_arcs(held, ways, focus, sampler.period)):
            if is_same(pair, corner):
                return [held[at] for at in spots]
    raise NoCorner(corner)


def is_pair(corner):
    """Tell whether an object is a tuple of two numbers."""
    return isinstance(corner, tuple) and len(corner) == 2 and is_number(corner[0]) and is_number(corner[1])


def ring_fault(program, sampler, focus, ring, pair):
    """The first fault of a list as a ring with this pair, or None."""
    check_focus(focus, program.names)
    ways = find_web(program, sampler)
    if len(ring) == 0:
        return ("empty",)
    # Whether an item is a state comes first: other items may equal a state, or be of kinds that are no keys.
    is_reached = [is_state(program, sampler, item) and item in ways for item in ring]
    for at, item in enumerate(ring):
        if not is_reached[at] or not is_reached[at - 1] or item not in ways[ring[at - 1]]:
            return ("state", at)
    counts = [counts_of_step(item, ways[ring[at - 1]][item], focus, sampler.period) for at, item in enumerate(ring)]
    if not is_same(ring_pair(counts), pair):
        return ("pair",)
    return None


def lead(program, sampler, state):
    """A road of the fewest states that ends at a reached state."""
    check_state(program, sampler, state)
    ways = find_web(program, sampler)
    if state not in ways:
        raise NoState()
    befores = {first: None for first, _ in first_states(program, sampler)}
    layer = list(befores)
    while state not in befores:
        later = []
        for before in layer:
            for after in ways[before]:
                if after not in befores:
                    befores[after] = before
                    later.append(after)
        layer = later
    road = [state]
    while befores[road[-1]] is not None:
        road.append(befores[road[-1]])
    return road[::-1]


def as_run(program, sampler, states):
    """The run (phase, stays, looks) of a road."""
    if isinstance(states, list) and len(states) > MOST_RUN_TICKS:
        raise NoTicks()
    if not is_road(program, sampler, states):
        raise NoState()
    return run_of(states, sampler)


def is_road(program, sampler, states):
    """Tell whether an object is a list of states that begins with a start state and goes on by steps."""
    if not isinstance(states, list) or len(states) == 0:
        return False
    if not all([is_state(program, sampler, state) for state in states]):
        return False
    pairs = first_states(program, sampler)
    for state in states:
        if state not in [after for after, _ in pairs]:
            return False
        pairs = pairs_behind(program, sampler, state)
    return True


def run_of(road, sampler):
    """The run (phase, stays, looks) of a list of states that is known to be a road."""
    return road[0][2], stays_of(road), looks_of(road, sampler)


def stays_of(road):
    """The stays of a road."""
    stays = []
    for name, spent, _, _, _ in road:
        # Each start state is the first tick of a stay, too.
        if spent == 1:
            stays.append((name, spent))
        else:
            stays[-1] = (name, spent)
    return stays


def looks_of(road, sampler):
    """The looks of a road: for each slot the place at which its look comes due in the road, or None."""
    looks = []
    for at, (_, _, slot, done, _) in enumerate(road):
        if at == 0:
            # Ahead of tick 0 a look has come due only where the phase is greater than the jitter.
            came = slot > sampler.jitter
        else:
            came = slot > 0 and road[at - 1][3]
        if at == 0 or slot == 0:
            looks.append(None)
        if done and not came:
            looks[-1] = slot
    return looks
