"""The knots of the web, in which runs without end stay, and the best ring of a knot in a direction."""

from seenshares.errors import NoKnot
from seenshares.kinds import is_integer_from
from seenshares.states import check_state, find_web


def knots(program, sampler):
    """The lists of states of all knots, in ascending order."""
    return split_web(find_web(program, sampler))


def knot_of(program, sampler, state):
    """The index of the knot with this state, or None."""
    check_state(program, sampler, state)
    for at, held in enumerate(split_web(find_web(program, sampler))):
        if state in held:
            return at
    return None


def pick_knot(ways, knot):
    """The states of the knot of the web that has this index."""
    found = split_web(ways)
    if not is_integer_from(knot, 0, len(found) - 1):
        raise NoKnot(knot)
    return found[knot]


def split_web(ways):
    """The lists of states of all knots of a web whose states are in ascending order."""
    marks = {state: 1 << at for at, state in enumerate(ways)}
    ahead = marks_ahead(ways, marks)
    groups = {}
    for state in ways:
        # States that can go on to themselves and to the same states can go on to one another.
        if ahead[state] & marks[state]:
            groups.setdefault(ahead[state], []).append(state)
    return list(groups.values())


def marks_ahead(ways, marks):
    """The marks, in one integer, of all states to which one or more steps lead from each state."""
    ahead = {state: 0 for state in ways}
    has_grown = True
    while has_grown:
        has_grown = False
        for state in ways:
            grown = ahead[state]
            for after in ways[state]:
                grown = grown | marks[after] | ahead[after]
            if grown != ahead[state]:
                ahead[state] = grown
                has_grown = True
    return ahead


def counts_of_step(after, noted, focus, period):
    """What a step to the state after adds to the ticks in the focus, and to those that its notes tell."""
    is_there = int(after[0] in focus)
    return is_there, period * is_there * int(noted)


def knot_arcs(held, ways, focus, period):
    """For each state of a knot a dict from the spot in the knot of each next state to what the step adds to both."""
    spots = {state: at for at, state in enumerate(held)}
    return [{spots[after]: counts_of_step(after, noted, focus, period)
             for after, noted in ways[state].items() if after in spots} for state in held]


def best_ring(arcs, a, b):
    """A ring of spots with the greatest mean of a * true + b * seen, the sum of this around it, and all worths.

    The ring has no spot twice. The worth of each spot is at least the gain of each of its steps times the length of
    the ring, less the sum, plus the worth of the next spot.
    """
    rows = [[(to, a * true + b * seen) for to, (true, seen) in arc.items()] for arc in arcs]
    backs = steps_back(rows)
    # Each round takes the best of the rings in which one chosen step from each spot goes round, and the worths that
    # the ways to this ring give. It then chooses the steps that are better than the chosen ones, until there are none.
    # No choice comes back, because in each round the mean grows, or it stays and the worths grow.
    choice = [row[0] for row in rows]
    while True:
        ring = best_chosen_ring(choice)
        total = gain_around(ring, choice)
        choice, worths = lead_all_to(ring, total, choice, backs)
        better = better_choice(rows, choice, worths, total, len(ring))
        if better == choice:
            return ring, total, worths
        choice = better


def best_chosen_ring(choice):
    """The ring with the greatest mean among those in which the chosen steps go round."""
    rings = chosen_rings(choice)
    best = rings[0]
    for ring in rings[1:]:
        if gain_around(ring, choice) * len(best) > gain_around(best, choice) * len(ring):
            best = ring
    return best


def chosen_rings(choice):
    """All rings in which the chosen steps go round."""
    walks = [-1 for _ in choice]
    rings = []
    for start in range(len(choice)):
        at = start
        while walks[at] == -1:
            walks[at] = start
            at = choice[at][0]
        # A walk that ends at a spot of its own has gone round a ring that no earlier walk has met.
        if walks[at] == start:
            ring = [at]
            while choice[ring[-1]][0] != at:
                ring.append(choice[ring[-1]][0])
            rings.append(ring)
    return rings


def gain_around(ring, choice):
    """The sum of the gains of the chosen steps around a ring."""
    return sum([choice[at][1] for at in ring])


def lead_all_to(ring, total, choice, backs):
    """A choice whose steps lead from all spots to the ring, and the worths of all spots.

    It keeps the chosen steps of the spots from which they lead there.
    """
    worths = [None for _ in choice]
    worths[ring[0]] = 0
    kept, worths = lead_back(choice, worths, steps_back([[step] for step in choice]), total, len(ring))
    return lead_back(kept, worths, backs, total, len(ring))


def steps_back(rows):
    """For each spot the steps that lead to it, as (spot, gain)."""
    backs = [[] for _ in rows]
    for at, row in enumerate(rows):
        for to, gain in row:
            backs[to].append((at, gain))
    return backs


def lead_back(choice, worths, backs, total, length):
    """A new choice and new worths, with those spots that had no worth and lead by backs to one that has."""
    led = list(choice)
    told = list(worths)
    queue = [at for at in range(len(told)) if told[at] is not None]
    while queue:
        at = queue.pop()
        for before, gain in backs[at]:
            if told[before] is None:
                told[before] = told[at] + gain * length - total
                led[before] = (at, gain)
                queue.append(before)
    return led, told


def better_choice(rows, choice, worths, total, length):
    """The best step from each spot, the chosen one where no other one is better."""
    better = list(choice)
    for at, row in enumerate(rows):
        best = worths[at]
        for to, gain in row:
            worth = worths[to] + gain * length - total
            if worth > best:
                best = worth
                better[at] = (to, gain)
    return better
