"""What the words of the document say of knots, rings and polygons, told from all rings without a state twice."""

from fractions import Fraction

from seenshares.samplers import Sampler
from seenshares.states import reached, steps
from tests.cases import CASES, program_of

# More programs for the tests of knots: with none, and with several.
NO_KNOT = program_of("a 1 2 open b, b 1 2 closed")
TWO_KNOTS = program_of("a 1 1 open b c, b 1 1 open b, c 1 2 closed c")
THREE_KNOTS = program_of("z 1 2 open z y x, y 1 1 closed y, x 2 2 open w, w 1 1 closed x")
# Programs whose polygons, for the sampler with period 2, have rings on the rim between two corners.
RIMS = [program_of("a 1 1 closed d c, b 3 3 closed c a, c 2 2 open d a c, d 3 3 closed b d c a"),
        program_of("a 1 2 closed a c b, b 1 3 closed a c b, c 3 4 open a")]
MOST_ROADS = 4000


def web_of(program, sampler):
    """A dict from each reached state to a dict from each next state to noted."""
    return {state: dict(steps(program, sampler, state)) for state in reached(program, sampler)}


def knots_by_words(web):
    """The knots of point 6.1, each in ascending order, in ascending order of their first states."""
    ahead = {}
    for state in web:
        found, layer = set(), set(web[state])
        while layer:
            found |= layer
            layer = {after for before in layer for after in web[before]} - found
        ahead[state] = found
    tied = {frozenset(other for other in ahead[state] if state in ahead[other]) for state in web}
    return sorted(sorted(knot) for knot in tied if knot)


def rings_without_twins(web):
    """All rings that contain no state twice, each once, or None if they are too many for a test."""
    found, tried = [], 0
    for root in web:
        roads = [[root]]
        while roads:
            road = roads.pop()
            tried += 1
            if tried > MOST_ROADS:
                return None
            for after in web[road[-1]]:
                if after == root:
                    found.append(road)
                elif after > root and after not in road:
                    roads.append([*road, after])
    return found


def pair_by_words(ring, web, focus, period):
    """The pair of point 7.1, in fractions of Python's own."""
    true = len([state for state in ring if state[0] in focus])
    told = [state for at, state in enumerate(ring) if web[ring[at - 1]][state]]
    seen = period * len([state for state in told if state[0] in focus])
    return Fraction(true, len(ring)), Fraction(seen, len(ring))


def corners_by_words(pairs):
    """The corners of point 7.2 of the smallest convex polygon that contains the pairs."""
    points = sorted(set(pairs))
    if len(points) == 1:
        return points
    halves = []
    for row in (points, points[::-1]):
        half = []
        for point in row:
            while len(half) > 1 and turn(half[-2], half[-1], point) <= 0:
                half.pop()
            half.append(point)
        halves += half[:-1]
    return halves


def turn(one, two, three):
    """Above 0 where the way from one to two to three turns to the left."""
    return (two[0] - one[0]) * (three[1] - one[1]) - (two[1] - one[1]) * (three[0] - one[0])


def fractions_of(pairs):
    """Pairs of shares as pairs of fractions of Python's own."""
    return [(Fraction(one.top, one.bottom), Fraction(two.top, two.bottom)) for one, two in pairs]


def focuses(program):
    """Some focuses of a program."""
    return [(program.names[0],), (program.names[-1],), program.names, program.names[:0:-1] or program.names]


def ringed_cases():
    """For the small cases (program, sampler, web, rings without a state twice)."""
    knotted = [(program, sampler) for program in (NO_KNOT, TWO_KNOTS, THREE_KNOTS) for _, sampler in CASES[:6]]
    for program, sampler in CASES + knotted + [(program, Sampler(2)) for program in RIMS]:
        web = web_of(program, sampler)
        rings = rings_without_twins(web)
        if rings is not None:
            yield program, sampler, web, rings
