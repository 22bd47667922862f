"""The pairs of a true and a seen share that long runs can have: the polygon of a knot."""

from math import gcd

from seenshares.knots import best_ring, knot_arcs, pick_knot, split_web
from seenshares.runs import check_focus
from seenshares.shares import Share, parts
from seenshares.states import find_web

# So much times the true share outweighs the seen share, which is at most 8: the true shares of two rings of at most
# 300 states are equal, or differ by a ninety-thousandth or more.
FAR = 1000000


def polygon(program, sampler, focus, knot):
    """The corners of the polygon of a knot, counterclockwise from the least one."""
    check_focus(focus, program.names)
    ways = find_web(program, sampler)
    return polygon_of(pick_knot(ways, knot), ways, focus, sampler.period)


def corners(program, sampler, focus):
    """The different corners of the polygons of all knots, in ascending order."""
    check_focus(focus, program.names)
    found = []
    for shape in all_polygons(program, sampler, focus):
        for pair in shape:
            found = with_pair(found, pair)
    return found


def inside(polygon, pair):
    """Tell whether a pair belongs to a polygon or lies on its rim."""
    if not is_between(polygon, pair, 0) or not is_between(polygon, pair, 1):
        return False
    return all([a * pair[0] + b * pair[1] <= level for a, b, level in sides(polygon)])


def sides(polygon):
    """Yield the sides (a, b, level) of a polygon, the one that begins at the first corner first."""
    if len(polygon) == 1:
        return
    for at, corner in enumerate(polygon):
        yield side_between(corner, polygon[(at + 1) % len(polygon)])


def all_polygons(program, sampler, focus):
    """The polygons of all knots, in the order of the knots."""
    ways = find_web(program, sampler)
    return [polygon_of(held, ways, focus, sampler.period) for held in split_web(ways)]


def polygon_of(held, ways, focus, period):
    """The polygon of a knot with these states."""
    return tuple([pair for pair, _ in rings_at_corners(knot_arcs(held, ways, focus, period))])


def is_between(polygon, pair, part):
    """Tell whether a part of the pair is neither less nor greater than this part of all corners."""
    # This alone keeps a pair beside a point, or beyond the ends of a stretch, from being inside.
    has_low = any([corner[part] <= pair[part] for corner in polygon])
    return has_low and any([corner[part] >= pair[part] for corner in polygon])


def side_between(start, end):
    """The side (a, b, level) from one corner to another one, where (a, b) points to the right of the way."""
    right, right_bottom = parts(end[0] - start[0])
    up, up_bottom = parts(end[1] - start[1])
    a = up * right_bottom
    b = -right * up_bottom
    common = gcd(a, b)
    a = a // common
    b = b // common
    return a, b, Share(0) + a * start[0] + b * start[1]


def with_pair(pairs, pair):
    """Pairs in ascending order, with one more, or again where it is among them."""
    ahead = [other for other in pairs if is_less(other, pair)]
    behind = [other for other in pairs if is_less(pair, other)]
    return ahead + [pair] + behind


def is_less(one, other):
    """Tell whether a pair comes ahead of another one."""
    return one[0] < other[0] or (one[0] == other[0] and one[1] < other[1])


def is_same(one, other):
    """Tell whether two pairs are equal by value."""
    return one[0] == other[0] and one[1] == other[1]


def ring_pair(counts):
    """The pair of a ring whose steps add this much to the ticks in the focus and to those that its notes tell."""
    true = sum([count[0] for count in counts])
    seen = sum([count[1] for count in counts])
    return Share(true, len(counts)), Share(seen, len(counts))


def rings_at_corners(arcs):
    """The corners of the polygon of a knot in their order, each as a pair with a ring of spots that has it."""
    # These are the least and the greatest pair, because the true share counts for so much more.
    first = ring_towards(arcs, -FAR, -1)
    last = ring_towards(arcs, FAR, 1)
    if is_same(first[0], last[0]):
        return [first]
    found = [first] + rings_beyond(arcs, first, last) + [last] + rings_beyond(arcs, last, first)
    if len(found) == 2:
        return found
    return [found[at] for at in range(len(found))
            if is_turn(found[at - 1][0], found[at][0], found[(at + 1) % len(found)][0])]


def ring_towards(arcs, a, b):
    """The pair that is farthest in a direction, or one of several, and a ring of spots that has it."""
    ring = best_ring(arcs, a, b)[0]
    return ring_pair([arcs[ring[at - 1]][to] for at, to in enumerate(ring)]), ring


def rings_beyond(arcs, start, end):
    """Pairs with rings, in their order, that tell the rim to the right of the way between two pairs on the rim."""
    a, b, level = side_between(start[0], end[0])
    found = ring_towards(arcs, a, b)
    if a * found[0][0] + b * found[0][1] == level:
        return []
    return rings_beyond(arcs, start, found) + [found] + rings_beyond(arcs, found, end)


def is_turn(before, pair, after):
    """Tell whether a pair is not on the straight line through the pairs beside it."""
    a, b, level = side_between(before, pair)
    return a * after[0] + b * after[1] != level
