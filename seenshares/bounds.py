"""How far the two shares can be from each other in long runs, over all knots."""

from seenshares.errors import NoShare
from seenshares.polygons import all_polygons, corners, with_pair
from seenshares.runs import check_focus
from seenshares.shares import greatest, is_number, smallest


def hidden(program, sampler, focus):
    """The greatest true share that the focus can have in a long run without being seen, or None."""
    return greatest([true for true, seen in corners(program, sampler, focus) if seen == 0])


def over(program, sampler, focus):
    """The greatest seen share less the true share, or None if there is no knot."""
    return greatest([seen - true for true, seen in corners(program, sampler, focus)])


def under(program, sampler, focus):
    """The greatest true share less the seen share, or None if there is no knot."""
    return greatest([true - seen for true, seen in corners(program, sampler, focus)])


def seen_range(program, sampler, focus, true):
    """The different pairs (least, greatest) of the seen shares that go with a true share in a knot."""
    check_focus(focus, program.names)
    return ranges_at(program, sampler, focus, 0, true)


def true_range(program, sampler, focus, seen):
    """The different pairs (least, greatest) of the true shares that go with a seen share in a knot."""
    check_focus(focus, program.names)
    return ranges_at(program, sampler, focus, 1, seen)


def surest(program, sampler):
    """The names of the program by how much of its time each can be at its place without being seen."""
    ranked = []
    for name in program.names:
        worth = hidden(program, sampler, (name,))
        ahead = [row for row in ranked if not is_beyond(row[1], worth)]
        behind = [row for row in ranked if is_beyond(row[1], worth)]
        ranked = ahead + [(name, worth)] + behind
    return [name for name, _ in ranked]


def is_beyond(one, other):
    """Tell whether a share or None is greater than another one, where None comes ahead of all shares."""
    return one is not None and (other is None or one > other)


def ranges_at(program, sampler, focus, part, worth):
    """The different pairs (least, greatest) of what goes in a knot with this worth of this part of a pair."""
    if not is_number(worth):
        raise NoShare()
    found = []
    for shape in all_polygons(program, sampler, focus):
        partners = partners_on_rim(shape, part, worth)
        if len(partners) > 0:
            found = with_pair(found, (smallest(partners), greatest(partners)))
    return found


def partners_on_rim(polygon, part, worth):
    """The other parts of some pairs on the rim with this worth of this part, the least and the greatest included."""
    found = []
    for at, end in enumerate(polygon):
        start = polygon[at - 1]
        if end[part] == worth:
            found.append(end[1 - part])
        elif (start[part] - worth) * (end[part] - worth) < 0:
            way = (worth - start[part]).over(end[part] - start[part])
            found.append(start[1 - part] + way * (end[1 - part] - start[1 - part]))
    return found
