"""What a row of notes tells of the runs that note it.

A spot is a tuple (count, state): a tick in this state, behind which the first count names of the row are noted. The
trail of a row is a dict from each spot on the way of a run that notes the row to the list of the spots that can come
one tick later on such a run.
"""

from seenshares.errors import NoLeast, NoRow
from seenshares.finite import MOST_SEARCHED_TICKS, best_ahead, sums_behind
from seenshares.kinds import is_integer_from
from seenshares.knots import split_web
from seenshares.programs import is_one_of
from seenshares.rings import run_of
from seenshares.runs import check_focus
from seenshares.shares import greatest
from seenshares.states import find_web, first_states

MOST_NAMES = 20
MOST_TIME = 40


def can_be(program, sampler, row):
    """Tell whether some run notes the row."""
    check_row(row, program.names)
    return len(trail_of(program, sampler, find_web(program, sampler), row)) > 0


def true_times(program, sampler, focus, row, *, ticks=None):
    """The least and the greatest time in the focus of all runs, or those of so many ticks, that note the row, or None.

    The greatest time is None where there is none.
    """
    check_focus(focus, program.names)
    check_row(row, program.names)
    if ticks is not None:
        check_time(ticks)
    ways = find_web(program, sampler)
    trail = trail_of(program, sampler, ways, row)
    starts = starts_of(program, sampler, trail, row)
    if len(trail) == 0 or ticks == 0:
        return None
    if ticks is not None:
        return times_of_ticks(trail, starts, focus, len(row), ticks)
    least = -greatest_sum(trail, starts, focus, len(row), -1)
    if can_wait(ways, trail, focus):
        return least, None
    return least, greatest_sum(trail, starts, focus, len(row), 1)


def sure_places(program, sampler, row):
    """The names of the places in which every run that notes the row spends a tick, or None if no run notes it."""
    check_row(row, program.names)
    trail = trail_of(program, sampler, find_web(program, sampler), row)
    if len(trail) == 0:
        return None
    starts = starts_of(program, sampler, trail, row)
    return [name for name in sorted(set(program.names)) if not can_avoid(trail, starts, len(row), name)]


def witness(program, sampler, focus, row, time):
    """A run of the fewest ticks that notes the row and spends just this time in the focus, or None."""
    check_focus(focus, program.names)
    check_row(row, program.names)
    check_time(time)
    trail = trail_of(program, sampler, find_web(program, sampler), row)
    befores = {}
    layer = []
    for spot in starts_of(program, sampler, trail, row):
        add_stop(befores, layer, None, (spot, time_at(spot, focus)))
    for _ in range(MOST_SEARCHED_TICKS):
        for stop in layer:
            if stop[0][0] == len(row) and stop[1] == time:
                return run_of(road_to(befores, stop), sampler)
        layer = stops_behind(befores, layer, trail, focus, time)
    return None


def check_row(row, names):
    """Refuse a row that is not a list of some of the names."""
    if not isinstance(row, list) or len(row) > MOST_NAMES:
        raise NoRow(-1)
    for at, item in enumerate(row):
        if not is_one_of(item, names):
            raise NoRow(at)


def check_time(ticks):
    """Refuse a number of ticks that is not in its limits."""
    if not is_integer_from(ticks, 0, MOST_TIME):
        raise NoLeast()


def trail_of(program, sampler, ways, row):
    """The trail of a row."""
    ahead = {}
    waiting = spots_from(first_states(program, sampler), 0, row)
    while waiting:
        spot = waiting.pop()
        if spot not in ahead:
            count, state = spot
            ahead[spot] = spots_from(list(ways[state].items()), count, row)
            waiting.extend(ahead[spot])
    kept = spots_before([spot for spot in ahead if spot[0] == len(row)], ahead)
    return {spot: [after for after in ahead[spot] if after in kept] for spot in kept}


def spots_from(pairs, count, row):
    """The spots of these pairs (state, noted) behind so many names of the row, where they go on with the row."""
    spots = []
    for state, noted in pairs:
        if not noted:
            spots.append((count, state))
        elif count < len(row) and row[count] == state[0]:
            spots.append((count + 1, state))
    return spots


def spots_before(ends, ahead):
    """A dict that has as its keys the ends and all spots from which a way leads to one of them."""
    befores = {spot: [] for spot in ahead}
    for spot in ahead:
        for after in ahead[spot]:
            befores[after].append(spot)
    kept = {}
    waiting = list(ends)
    while waiting:
        spot = waiting.pop()
        if spot not in kept:
            kept[spot] = True
            waiting.extend(befores[spot])
    return kept


def starts_of(program, sampler, trail, row):
    """The spots of the trail at which runs can begin."""
    return [spot for spot in spots_from(first_states(program, sampler), 0, row) if spot in trail]


def time_at(spot, focus):
    """The number of ticks, 1 or 0, in the focus at a spot."""
    return int(spot[1][0] in focus)


def gains_on(trail, focus, sign):
    """A dict from each spot to a dict from each next spot to its time in the focus, with this sign."""
    return {spot: {after: sign * time_at(after, focus) for after in trail[spot]} for spot in trail}


def greatest_sum(trail, starts, focus, many, sign):
    """The greatest time in the focus, with this sign, of all runs that note the whole row."""
    gains = gains_on(trail, focus, sign)
    worths = {spot: 0 for spot in trail if spot[0] == many}
    # The count of the notes never falls, so each count needs only itself and those above it.
    for count in range(many, -1, -1):
        worths = best_ahead({spot: gains[spot] for spot in trail if spot[0] == count}, worths)
    return greatest([sign * time_at(spot, focus) + worths[spot] for spot in starts])


def times_of_ticks(trail, starts, focus, many, ticks):
    """The least and the greatest time in the focus of the runs of so many ticks that note the row, or None."""
    sums = [greatest_sum_of_ticks(trail, starts, focus, many, ticks, sign) for sign in (-1, 1)]
    if sums[0] is None:
        return None
    return -sums[0], sums[1]


def greatest_sum_of_ticks(trail, starts, focus, many, ticks, sign):
    """The greatest time in the focus, with this sign, of the runs of so many ticks, or None if there are none."""
    gains = gains_on(trail, focus, sign)
    sums = {spot: sign * time_at(spot, focus) for spot in starts}
    for _ in range(ticks - 1):
        sums = sums_behind(sums, gains)[0]
    return greatest([sums[spot] for spot in sums if spot[0] == many])


def can_wait(ways, trail, focus):
    """Tell whether runs on the trail can spend any time in the focus, because they can go round there unnoted."""
    quiet = {state: [after for after in ways[state] if not ways[state][after]] for state in ways}
    held = {state: True for knot in split_web(quiet) for state in knot if state[0] in focus}
    return any([spot[1] in held for spot in trail])


def can_avoid(trail, starts, many, name):
    """Tell whether a run notes the whole row and spends no tick in the place of this name."""
    seen = {}
    waiting = list(starts)
    while waiting:
        spot = waiting.pop()
        if spot not in seen and spot[1][0] != name:
            if spot[0] == many:
                return True
            seen[spot] = True
            waiting.extend(trail[spot])
    return False


def stops_behind(befores, layer, trail, focus, time):
    """The new stops (spot, time in the focus) that can come a tick behind some stops, kept with those ahead of them."""
    later = []
    for stop in layer:
        spot, spent = stop
        for after in trail[spot]:
            total = spent + time_at(after, focus)
            if total <= time:
                add_stop(befores, later, stop, (after, total))
    return later


def add_stop(befores, layer, before, stop):
    """Keep a stop with the one ahead of it, and add it to its layer, if it is a new one."""
    if stop not in befores:
        befores[stop] = before
        layer.append(stop)


def road_to(befores, stop):
    """The road whose last spot is that of the stop."""
    road = [stop[0][1]]
    while befores[stop] is not None:
        stop = befores[stop]
        road.append(stop[0][1])
    return road[::-1]
