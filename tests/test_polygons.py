"""Points 0.2 and 7.1 to 7.5, and 0.5 and 0.6 as far as they speak of polygons."""

import inspect
import unittest
from fractions import Fraction
from math import gcd

from seenshares.errors import NoCorner, NoFocus, NoKnot, TooMany
from seenshares.papers import paper, paper_fault
from seenshares.polygons import corners, inside, polygon, sides
from seenshares.rings import ring, ring_fault
from seenshares.samplers import Sampler
from seenshares.shares import Share
from tests.cases import FULL, LARGE, OVER, all_runs, error_of, program_of, road_by_words, show, woven
from tests.objects import others
from tests.webs import (NO_KNOT, RIMS, TWO_KNOTS, corners_by_words, focuses, fractions_of, knots_by_words,
                        pair_by_words, ringed_cases, turn)

TWO = program_of("a 1 1 open b, b 1 2 open a")
BIG = 10 ** 99


def shares(*pairs):
    """Pairs of shares of texts like "1/2 0"."""
    return tuple(tuple(Share(*map(int, part.split("/"))) for part in pair.split()) for pair in pairs)


def texts(pairs):
    """Pairs of shares as such texts."""
    return [f"{one} {two}" for one, two in pairs]


POINT = shares("1/3 1/2")
STRETCH = shares("1/3 0", "1/2 1")
UPRIGHT = shares("1/3 0", "1/3 1/2")
TRIANGLE = shares("1/3 1/3", "1/2 0", "1/2 1")
SQUARE = shares("0 0", "1 0", "1 1", "0 1")
FIVE = shares("0 1/2", "1/7 0", "3/4 1/9", "1 1/2", "1/2 1")
HUGE = ((Share(-BIG, 3), Share(BIG - 1, 7)), (Share(BIG, BIG - 2), Share(1, BIG)), (Share(BIG - 3, 2), Share(BIG, 5)))
SHAPES = [POINT, STRETCH, UPRIGHT, TRIANGLE, SQUARE, FIVE, HUGE]


class PolygonTest(unittest.TestCase):

    def test_the_parameters(self):
        self.assertEqual(str(inspect.signature(polygon)), "(program, sampler, focus, knot)")
        self.assertEqual(str(inspect.signature(corners)), "(program, sampler, focus)")
        self.assertEqual(str(inspect.signature(inside)), "(polygon, pair)")
        self.assertEqual(str(inspect.signature(sides)), "(polygon)")

    def test_against_all_rings_without_a_state_twice(self):
        sizes = set()
        for program, sampler, web, rings in ringed_cases():
            for focus in focuses(program):
                for at, held in enumerate(knots_by_words(web)):
                    pairs = [pair_by_words(one, web, focus, sampler.period) for one in rings if one[0] in held]
                    told = polygon(program, sampler, focus, at)
                    self.assertIs(type(told), tuple)
                    right = corners_by_words(pairs)
                    self.assertEqual(fractions_of(told), right, (show(program, sampler), focus, at))
                    for pair in told:
                        self.assertEqual([type(pair), type(pair[0]), type(pair[1])], [tuple, Share, Share])
                    self.assertEqual(fractions_of(polygon(program, sampler, focus[::-1], at)), right)
                    sizes.add(len(right))
        self.assertTrue({1, 2, 3, 4} <= sizes)

    def test_a_point_a_stretch_and_more_corners(self):
        self.assertEqual(texts(polygon(program_of("a 1 1 open b, b 2 2 open a"), Sampler(1), ("b",), 0)), ["2/3 2/3"])
        self.assertEqual(texts(polygon(TWO, Sampler(1), ("a",), 0)), ["1/3 1/3", "1/2 1/2"])
        upright = program_of("a 1 1 open b, b 1 1 closed a")
        self.assertEqual(texts(polygon(upright, Sampler(4, 1), ("a",), 0)), ["1/2 1"])
        free = program_of("a 1 1 open b, b 1 1 open a")
        self.assertEqual(texts(polygon(free, Sampler(4, 1), ("a",), 0)), ["1/2 0", "1/2 1"])
        self.assertEqual(texts(polygon(TWO, Sampler(2), ("a",), 0)), ["1/3 1/3", "1/2 0", "1/2 1"])
        self.assertEqual(texts(polygon(TWO, Sampler(2, 1), ("a",), 0)), ["1/3 0", "1/2 0", "1/2 1", "1/3 2/3"])

    def test_the_order_and_the_first_corner(self):
        for program, sampler in [(TWO, Sampler(2, 1)), FULL, (woven("open", 5, 5, 5, 5), Sampler(8, 7)),
                                 (program_of("a 1 4 open b, b 1 3 closed a c, c 2 5 open a"), Sampler(7, 3))]:
            told = fractions_of(polygon(program, sampler, ("a",), 0))
            self.assertEqual(told[0], min(told))
            for at in range(len(told)):
                if len(told) > 2:
                    self.assertGreater(turn(told[at - 2], told[at - 1], told[at]), 0)

    def test_rings_on_the_rim_between_two_corners_are_no_corners(self):
        rows = [(RIMS[0], ["2/3 1", "3/4 0", "1 0", "1 1"], (Share(6, 7), 0)),
                (RIMS[1], ["0 0", "1 0", "5/6 1", "2/3 1"], (Share(3, 4), 1))]
        for program, right, pair in rows:
            told = polygon(program, Sampler(2), program.names[1:], 0)
            self.assertEqual(texts(told), right)
            self.assertTrue(inside(told, pair))
            self.assertIs(error_of(NoCorner, ring, program, Sampler(2), program.names[1:], 0, pair)["corner"], pair)

    def test_large_webs_by_rings_and_papers(self):
        for program, sampler in [FULL, (woven("open", 5, 5, 5, 5), Sampler(8, 7)),
                                 (program_of("a 1 6 open b, b 2 6 closed a c, c 3 5 open a b"), Sampler(7, 5))]:
            for focus in focuses(program):
                told = polygon(program, sampler, focus, 0)
                for corner in told:
                    mine = ring(program, sampler, focus, 0, corner)
                    self.assertIsNone(ring_fault(program, sampler, focus, mine, corner))
                ways = list(sides(told)) or [(a, b, a * told[0][0] + b * told[0][1])
                                             for a, b in ((1, 0), (0, 1), (-1, 0), (0, -1))]
                for a, b, level in ways:
                    prices = paper(program, sampler, focus, 0, a, b)[1]
                    self.assertIsNone(paper_fault(program, sampler, focus, 0, a, b, level, prices))

    def test_the_order_of_the_errors(self):
        self.assertEqual(error_of(NoFocus, polygon, *OVER, ("a", "z"), None), {"index": 1})
        self.assertEqual(error_of(TooMany, polygon, *OVER, ("a",), None), {"limit": 300})
        self.assertEqual(error_of(NoKnot, polygon, TWO, Sampler(2), ("a",), 1), {"index": 1})
        self.assertEqual(error_of(NoFocus, corners, *OVER, ("a", "z")), {"index": 1})
        for program, sampler in LARGE:
            self.assertEqual(error_of(TooMany, corners, program, sampler, ("a",)), {"limit": 300})

    def test_what_is_no_focus(self):
        for thing in others(tuple) + [()]:
            self.assertEqual(error_of(NoFocus, polygon, TWO, Sampler(2), thing, 0), {"index": -1})
            self.assertEqual(error_of(NoFocus, corners, TWO, Sampler(2), thing), {"index": -1})
        for thing in others(str) + ["c", ""]:
            self.assertEqual(error_of(NoFocus, polygon, TWO, Sampler(2), ("b", thing), 0), {"index": 1})
            self.assertEqual(error_of(NoFocus, corners, TWO, Sampler(2), ("b", thing)), {"index": 1})


class CornersTest(unittest.TestCase):

    def test_no_knot(self):
        self.assertEqual(corners(NO_KNOT, Sampler(2), ("a",)), [])

    def test_all_knots_together(self):
        several = 0
        for program, sampler, web, rings in ringed_cases():
            many = len(knots_by_words(web))
            several += many > 1
            for focus in focuses(program):
                right = {pair for at in range(many) for pair in fractions_of(polygon(program, sampler, focus, at))}
                told = corners(program, sampler, focus)
                self.assertIs(type(told), list)
                self.assertEqual(fractions_of(told), sorted(right), (show(program, sampler), focus))
        self.assertGreater(several, 5)

    def test_equal_corners_of_two_knots_are_told_once(self):
        program = program_of("a 1 1 open b, b 1 1 open a")
        self.assertEqual(texts(corners(program, Sampler(3, phase=None), ("a",))), ["1/2 1/2"])
        self.assertEqual(texts(corners(program, Sampler(2, phase=None), ("a",))), ["1/2 0", "1/2 1"])
        self.assertEqual(texts(corners(TWO_KNOTS, Sampler(2), ("b",))), ["0 0", "1 1"])
        self.assertEqual(texts(corners(TWO_KNOTS, Sampler(2), ("c", "a"))), ["0 0", "1 0"])

    def test_a_list_that_was_told_may_be_changed(self):
        corners(TWO, Sampler(2), ("a",)).clear()
        self.assertEqual(len(corners(TWO, Sampler(2), ("a",))), 3)


class InsideTest(unittest.TestCase):

    def check(self, shape, text, right):
        pair = shares(text)[0]
        told = [inside(shape, pair)]
        if pair[0].bottom == pair[1].bottom == 1:
            told.append(inside(shape, (pair[0].top, pair[1].top)))
        if pair[0].bottom == 1:
            told.append(inside(shape, (pair[0].top, pair[1])))
        for one in told:
            self.assertIs(one, right, (texts(shape), text))

    def test_a_point(self):
        self.check(POINT, "1/3 1/2", True)
        for text in ("1/3 0", "1/3 1", "0 1/2", "1 1/2", "1/2 1/3", "33/100 1/2", "1/3 51/100", "0 0"):
            self.check(POINT, text, False)
        self.check(shares("1 0"), "1 0", True)
        self.check(shares("1 0"), "0 1", False)

    def test_a_stretch(self):
        for text in ("1/3 0", "1/2 1", "5/12 1/2", "3/8 1/4"):
            self.check(STRETCH, text, True)
        for text in ("1/4 -1/2", "2/3 2", "5/12 51/100", "5/12 49/100", "1/3 1", "1/2 0", "1/3 1/100", "0 0", "1 1"):
            self.check(STRETCH, text, False)
        for text in ("1/3 0", "1/3 1/4", "1/3 1/2"):
            self.check(UPRIGHT, text, True)
        for text in ("1/3 -1/100", "1/3 51/100", "34/100 1/4", "33/100 1/4", "0 0", "1 0"):
            self.check(UPRIGHT, text, False)
        level = shares("-2 1", "3 1")
        for text in ("-2 1", "3 1", "0 1", "1/7 1"):
            self.check(level, text, True)
        for text in ("-3 1", "4 1", "0 0", "0 2", "1/7 8/7"):
            self.check(level, text, False)

    def test_more_corners(self):
        for text in ("1/3 1/3", "1/2 0", "1/2 1", "1/2 1/2", "5/12 1/6", "5/12 2/3", "2/5 1/5", "2/5 3/5", "2/5 2/5"):
            self.check(TRIANGLE, text, True)
        for text in ("1/4 2/3", "1/4 0", "51/100 1/2", "5/12 165/1000", "5/12 667/1000", "33/100 1/3", "1/2 -1/100",
                     "1/2 101/100", "1/3 32/100", "1/3 34/100", "0 0", "1 1"):
            self.check(TRIANGLE, text, False)
        for text in ("0 0", "1 0", "1 1", "0 1", "1/2 0", "1 1/3", "1/7 1/9"):
            self.check(SQUARE, text, True)
        for text in ("-1/9 0", "10/9 0", "2 1", "1 2", "1/2 -1/100", "1/2 101/100", "-1 -1"):
            self.check(SQUARE, text, False)

    def test_against_turns(self):
        for shape in (TRIANGLE, SQUARE, FIVE):
            told = fractions_of(shape)
            for x in range(-3, 15):
                for y in range(-3, 15):
                    pair = (Fraction(x, 12), Fraction(y, 12))
                    right = all(turn(told[at - 1], told[at], pair) >= 0 for at in range(len(told)))
                    self.assertIs(inside(shape, (Share(x, 12), Share(y, 12))), right)

    def test_large_numbers(self):
        for corner in HUGE:
            self.assertIs(inside(HUGE, corner), True)
            self.assertIs(inside((corner,), corner), True)
            self.assertIs(inside((corner,), (corner[0] + Share(1, BIG), corner[1])), False)
            self.assertIs(inside((corner,), (corner[0], corner[1] - Share(1, BIG))), False)
        middle = (HUGE[0][0] + HUGE[1][0]).over(2), (HUGE[0][1] + HUGE[1][1]).over(2)
        self.assertIs(inside(HUGE, middle), True)
        self.assertIs(inside(HUGE[:2], middle), True)
        self.assertIs(inside(HUGE, (middle[0], middle[1] - Share(1, BIG))), False)
        self.assertIs(inside(HUGE[:2], (middle[0], middle[1] + Share(1, BIG))), False)
        self.assertIs(inside(SQUARE, (BIG, -BIG)), False)

    def test_the_averages_of_runs_are_inside(self):
        for program, sampler in [(TWO, Sampler(2, 1)), (program_of("a 1 2 open b, b 1 2 closed a"), Sampler(3, 1))]:
            shape = polygon(program, sampler, ("a",), 0)
            for run in all_runs(program, sampler, 8):
                road = road_by_words(program, sampler, *run)
                for p in range(8):
                    for q in range(p + 1, 8):
                        if road[p][0] == road[q][0]:
                            ticks = road[p + 1:q + 1]
                            true = Share(len([1 for state, _ in ticks if state[0] == "a"]), q - p)
                            told = len([1 for state, noted in ticks if state[0] == "a" and noted])
                            self.assertTrue(inside(shape, (true, Share(sampler.period * told, q - p))))


class SidesTest(unittest.TestCase):

    def test_it_is_a_generator_of_tuples(self):
        self.assertTrue(inspect.isgeneratorfunction(sides))
        for one in sides(TRIANGLE):
            self.assertEqual([type(part) for part in one], [int, int, Share])
            self.assertIs(type(one), tuple)

    def test_a_point_has_none(self):
        self.assertEqual(list(sides(POINT)), [])

    def test_a_stretch_has_two(self):
        self.assertEqual([(a, b, str(level)) for a, b, level in sides(STRETCH)], [(6, -1, "2"), (-6, 1, "-2")])
        self.assertEqual([(a, b, str(level)) for a, b, level in sides(UPRIGHT)], [(1, 0, "1/3"), (-1, 0, "-1/3")])
        level = shares("-2 1/5", "3 1/5")
        self.assertEqual([(a, b, str(level)) for a, b, level in sides(level)], [(0, -1, "-1/5"), (0, 1, "1/5")])

    def test_more_corners_and_their_order(self):
        told = [(a, b, str(level)) for a, b, level in sides(TRIANGLE)]
        self.assertEqual(told, [(-2, -1, "-1"), (1, 0, "1/2"), (-4, 1, "-1")])
        told = [(a, b, str(level)) for a, b, level in sides(SQUARE)]
        self.assertEqual(told, [(0, -1, "0"), (1, 0, "1"), (0, 1, "1"), (-1, 0, "0")])
        told = [(a, b, str(level)) for a, b, level in sides(FIVE)]
        self.assertEqual(len(told), 5)
        self.assertEqual(told[0], (-7, -2, "-1"))

    def test_what_holds_for_every_side(self):
        for shape in SHAPES:
            told = list(sides(shape))
            self.assertEqual(len(told), len(shape) if len(shape) > 1 else 0)
            for at, (a, b, level) in enumerate(told):
                start, end = shape[at], shape[(at + 1) % len(shape)]
                self.assertEqual(gcd(a, b), 1)
                self.assertTrue(a * start[0] + b * start[1] == level and a * end[0] + b * end[1] == level)
                self.assertTrue(all(a * x + b * y <= level for x, y in shape))
                # To the right of the way, so the way is (a, b) turned to the left.
                self.assertTrue(-b * (end[0] - start[0]) + a * (end[1] - start[1]) > 0)

    def test_corners_of_integers_mean_the_same(self):
        shape = ((0, 0), (Share(1), 0), (1, Share(1)), (0, 1))
        self.assertEqual([(a, b, str(level)) for a, b, level in sides(shape)],
                         [(0, -1, "0"), (1, 0, "1"), (0, 1, "1"), (-1, 0, "0")])
        self.assertTrue(all(type(level) is Share for _, _, level in sides(shape)))
        self.assertIs(inside(shape, (1, 1)), True)
        self.assertIs(inside(((0, 1),), (0, Share(1))), True)

    def test_the_shape_stays(self):
        shape = TRIANGLE
        before = texts(shape)
        list(sides(shape))
        inside(shape, (0, 0))
        self.assertEqual(texts(shape), before)


class FactsTest(unittest.TestCase):

    def test_the_facts_of_point_7_5(self):
        for program, sampler, web, _ in ringed_cases():
            for at in range(len(knots_by_words(web))):
                for true, seen in polygon(program, sampler, program.names, at):
                    self.assertTrue(true == 1 and 0 <= seen <= 1)
                for focus in focuses(program):
                    told = polygon(program, sampler, focus, at)
                    self.assertTrue(all(0 <= true <= 1 and 0 <= seen <= 1 for true, seen in told))
                    rest = tuple(name for name in program.names if name not in focus)
                    is_let = all(program[name].let for name in program.names)
                    if is_let and rest:
                        mirror = sorted((1 - true, 1 - seen) for true, seen in fractions_of(told))
                        other = polygon(program, sampler, rest, at)
                        self.assertEqual(sorted(fractions_of(other)), mirror)
                    if is_let and sampler.period == 1:
                        self.assertTrue(all(true == seen for true, seen in told))


if __name__ == "__main__":
    unittest.main()
