"""Points 9.1 to 9.4 and 7.5, and 0.5 and 0.6 as far as they speak of bounds."""

import inspect
import unittest
from fractions import Fraction

from seenshares.bounds import hidden, over, seen_range, surest, true_range, under
from seenshares.errors import NoCorner, NoFocus, NoShare, TooMany
from seenshares.knots import knots
from seenshares.rings import ring, ring_fault
from seenshares.samplers import Sampler
from seenshares.shares import Share
from tests.cases import CASES, FULL, LARGE, OVER, error_of, program_of, show, woven
from tests.objects import others
from tests.webs import (NO_KNOT, THREE_KNOTS, TWO_KNOTS, corners_by_words, focuses, knots_by_words, pair_by_words,
                        ringed_cases, web_of)

TWO = program_of("a 1 1 open b, b 1 2 open a")
EVEN = Sampler(2)
# Four knots, of which the first two have the same polygon for the focus ("x",).
FORK = program_of("s 1 1 open x y z w, x 1 1 open x, y 1 1 open y, z 1 1 closed z, w 1 2 open x w")
# Two knots that are stretches, for the focus ("a", "c").
PAIRS = program_of("s 1 1 open a c, a 1 1 open b, b 1 2 open a, c 1 1 closed d, d 1 2 open c")


def fraction(number):
    """A share or an integer as a fraction of Python's own, and None as it is."""
    if number is None:
        return None
    return Fraction(number.top, number.bottom) if isinstance(number, Share) else Fraction(number)


def shapes_by_words(web, rings, focus, period):
    """The corners of the polygons of all knots."""
    shapes = []
    for held in knots_by_words(web):
        shapes.append(corners_by_words([pair_by_words(one, web, focus, period) for one in rings if one[0] in held]))
    return shapes


def ranges_by_words(shapes, part, worth):
    """The pairs of point 9.3, from the stretches between any two corners."""
    found = set()
    for shape in shapes:
        partners = [pair[1 - part] for pair in shape if pair[part] == worth]
        for one in shape:
            for two in shape:
                if one[part] < worth < two[part]:
                    way = (worth - one[part]) / (two[part] - one[part])
                    partners.append(one[1 - part] + way * (two[1 - part] - one[1 - part]))
        if partners:
            found.add((min(partners), max(partners)))
    return sorted(found)


def texts(rows):
    """Pairs of shares as texts."""
    return [f"{one} {two}" for one, two in rows]


class ValuesTest(unittest.TestCase):

    def test_the_parameters(self):
        for call in (hidden, over, under):
            self.assertEqual(str(inspect.signature(call)), "(program, sampler, focus)")
        self.assertEqual(str(inspect.signature(seen_range)), "(program, sampler, focus, true)")
        self.assertEqual(str(inspect.signature(true_range)), "(program, sampler, focus, seen)")
        self.assertEqual(str(inspect.signature(surest)), "(program, sampler)")

    def test_against_the_corners_of_all_knots(self):
        signs = set()
        for program, sampler, web, rings in ringed_cases():
            for focus in focuses(program):
                pairs = [pair for shape in shapes_by_words(web, rings, focus, sampler.period) for pair in shape]
                right = [max((true for true, seen in pairs if seen == 0), default=None),
                         max((seen - true for true, seen in pairs), default=None),
                         max((true - seen for true, seen in pairs), default=None)]
                for given in (focus, focus[::-1]):
                    told = [call(program, sampler, given) for call in (hidden, over, under)]
                    self.assertEqual([fraction(one) for one in told], right, (show(program, sampler), focus))
                    self.assertTrue(all(one is None or type(one) is Share for one in told))
                for at, one in enumerate(right):
                    signs.add((at, one if one is None else (one > 0) - (one < 0)))
        self.assertTrue({(0, None), (0, 0), (0, 1)} <= signs)
        self.assertTrue({(at, one) for at in (1, 2) for one in (None, -1, 0, 1)} <= signs)

    def test_some_values(self):
        upright = program_of("a 1 1 open b, b 1 1 closed a")
        rows = [
            (TWO, EVEN, ("a",), ["1/2", "1/2", "1/2"]), (TWO, EVEN, ("a", "b"), ["None", "0", "0"]),
            (TWO, Sampler(1), ("a",), ["None", "0", "0"]), (upright, EVEN, ("a",), ["None", "1/2", "-1/2"]),
            (upright, EVEN, ("b",), ["1/2", "-1/2", "1/2"]), (TWO_KNOTS, EVEN, ("a",), ["0", "0", "0"]),
            (NO_KNOT, EVEN, ("a",), ["None", "None", "None"]), (program_of("a 1 1 closed a"), EVEN, ("a",),
                                                               ["1", "-1", "1"]),
        ]
        for program, sampler, focus, right in rows:
            self.assertEqual([str(call(program, sampler, focus)) for call in (hidden, over, under)], right)

    def test_a_ring_without_a_note_of_the_focus_has_the_share_that_hidden_tells(self):
        found = 0
        cases = [(program, sampler, web) for program, sampler, web, _ in ringed_cases()]
        cases.append((woven("open", 5, 5, 5, 5), Sampler(8, 7), web_of(woven("open", 5, 5, 5, 5), Sampler(8, 7))))
        for program, sampler, web in cases:
            for focus in focuses(program)[:3]:
                most = hidden(program, sampler, focus)
                mine = [] if most is None else self.rings_with(program, sampler, focus, (most, 0))
                self.assertEqual(len(mine) > 0, most is not None)
                for states in mine:
                    self.assertIsNone(ring_fault(program, sampler, focus, states, (most, 0)))
                    self.assertFalse(any(web[states[at - 1]][state] for at, state in enumerate(states)
                                         if state[0] in focus))
                    found += 1
        self.assertGreater(found, 100)

    def rings_with(self, program, sampler, focus, corner):
        found = []
        for at in range(len(knots(program, sampler))):
            try:
                found.append(ring(program, sampler, focus, at, corner))
            except NoCorner:
                pass
        return found

    def test_the_names_outside_the_focus_where_every_place_is_let(self):
        tried = 0
        for program, sampler in CASES + [(woven("open", 5, 5, 5, 5), Sampler(8, 7))]:
            if all(program[name].let for name in program.names) and len(program) > 1:
                for focus in focuses(program)[:2]:
                    rest = tuple(name for name in program.names if name not in focus)
                    one, two = over(program, sampler, focus), under(program, sampler, rest)
                    self.assertTrue(one == two, (show(program, sampler), focus))
                    one, two = under(program, sampler, focus), over(program, sampler, rest)
                    self.assertTrue(one == two, (show(program, sampler), focus))
                    tried += 1
                for call in (over, under):
                    self.assertTrue(call(program, sampler, program.names) == 0)
                self.assertIsNone(hidden(program, sampler, program.names))
        self.assertGreater(tried, 20)

    def test_programs_that_can_only_go_one_way(self):
        line = program_of("a 2 2 open b, b 1 1 closed c, c 3 3 open a")
        self.assertEqual([str(call(line, Sampler(3), ("a",))) for call in (hidden, over, under)],
                         ["None", "1/6", "-1/6"])
        self.assertEqual([str(call(line, Sampler(3), ("b",))) for call in (hidden, over, under)],
                         ["1/6", "-1/6", "1/6"])
        self.assertEqual(texts(seen_range(line, Sampler(3), ("b",), Share(1, 6))), ["0 0"])
        self.assertEqual(seen_range(line, Sampler(3), ("b",), Share(1, 7)), [])
        self.assertEqual(texts(true_range(line, Sampler(3), ("b",), 0)), ["1/6 1/6"])

    def test_what_is_no_focus_and_too_many_states(self):
        for call in (hidden, over, under):
            for thing in others(tuple) + [()]:
                self.assertEqual(error_of(NoFocus, call, *OVER, thing), {"index": -1})
            for thing in others(str) + ["z"]:
                self.assertEqual(error_of(NoFocus, call, *OVER, ("a", thing)), {"index": 1})
            self.assertEqual(error_of(NoFocus, call, *OVER, ("a", "b", "a", "z")), {"index": 2})
            for program, sampler in LARGE:
                self.assertEqual(error_of(TooMany, call, program, sampler, ("a",)), {"limit": 300})
            call(*FULL, ("a",))


class RangesTest(unittest.TestCase):

    def test_against_the_polygons_of_all_knots(self):
        sizes = set()
        for program, sampler, web, rings in ringed_cases():
            for focus in focuses(program):
                shapes = shapes_by_words(web, rings, focus, sampler.period)
                parts = {number for shape in shapes for pair in shape for number in pair}
                parts |= {Fraction(1, 3), Fraction(2, 5), Fraction(0), Fraction(1), Fraction(-1), Fraction(9)}
                for worth in parts:
                    for part, call in enumerate((seen_range, true_range)):
                        right = ranges_by_words(shapes, part, worth)
                        told = call(program, sampler, focus, Share(worth.numerator, worth.denominator))
                        self.check_kinds(told)
                        self.assertEqual([(fraction(one), fraction(two)) for one, two in told], right)
                        if worth.denominator == 1:
                            self.assertEqual(texts(call(program, sampler, focus, int(worth))), texts(told))
                        sizes.add(len(right))
        self.assertTrue({0, 1, 2} <= sizes)

    def check_kinds(self, told):
        self.assertIs(type(told), list)
        for pair in told:
            self.assertEqual([type(pair), type(pair[0]), type(pair[1]), len(pair)], [tuple, Share, Share, 2])

    def test_a_triangle(self):
        rows = [(Share(2, 5), ["1/5 3/5"]), (Share(1, 3), ["1/3 1/3"]), (Share(1, 2), ["0 1"]), (Share(1, 4), []),
                (Share(51, 100), []), (0, []), (1, []), (-1, []), (10 ** 99, []), (Share(1, 10 ** 99), [])]
        for worth, right in rows:
            self.assertEqual(texts(seen_range(TWO, EVEN, ("a",), worth)), right)
        rows = [(Share(1, 3), ["1/3 1/2"]), (0, ["1/2 1/2"]), (1, ["1/2 1/2"]), (Share(1, 6), ["5/12 1/2"]),
                (Share(2, 3), ["5/12 1/2"]), (Share(-1, 10 ** 99), []), (2, [])]
        for worth, right in rows:
            self.assertEqual(texts(true_range(TWO, EVEN, ("a",), worth)), right)

    def test_points_and_several_knots(self):
        self.assertEqual(len(knots(FORK, Sampler(1))), 4)
        for worth in (0, Share(0)):
            self.assertEqual(texts(seen_range(FORK, Sampler(1), ("x",), worth)), ["0 0"])
            self.assertEqual(texts(true_range(FORK, Sampler(1), ("z",), worth)), ["0 0", "1 1"])
        self.assertEqual(texts(seen_range(FORK, Sampler(1), ("z",), 1)), ["0 0"])
        self.assertEqual(texts(seen_range(FORK, Sampler(1), ("x", "z"), Share(3, 3))), ["0 0", "1 1"])
        self.assertEqual(seen_range(FORK, Sampler(1), ("x", "z"), Share(1, 2)), [])

    def test_stretches_and_several_knots(self):
        self.assertEqual(len(knots(PAIRS, Sampler(1))), 2)
        rows = [(Share(1, 2), ["0 0", "1/2 1/2"]), (Share(2, 5), ["0 0", "2/5 2/5"]),
                (Share(1, 3), ["0 0", "1/3 1/3"]), (Share(51, 100), []), (Share(33, 100), []), (0, [])]
        for worth, right in rows:
            self.assertEqual(texts(seen_range(PAIRS, Sampler(1), ("a", "c"), worth)), right)
        rows = [(Share(1, 2), ["1/2 1/2"]), (Share(2, 5), ["2/5 2/5"]), (0, ["1/3 1/2"]), (Share(0, 7), ["1/3 1/2"]),
                (Share(1, 100), []), (1, [])]
        for worth, right in rows:
            self.assertEqual(texts(true_range(PAIRS, Sampler(1), ("a", "c"), worth)), right)

    def test_no_knot(self):
        self.assertEqual([seen_range(NO_KNOT, EVEN, ("a",), 0), true_range(NO_KNOT, EVEN, ("a",), 0)], [[], []])

    def test_a_list_that_was_told_may_be_changed(self):
        for call in (seen_range, true_range):
            call(TWO, EVEN, ("a",), Share(1, 3)).clear()
            self.assertEqual(len(call(TWO, EVEN, ("a",), Share(1, 3))), 1)

    def test_what_is_no_number_and_the_order_of_the_errors(self):
        for call in (seen_range, true_range):
            for thing in others(int, Share) + [True, False]:
                self.assertEqual(error_of(NoShare, call, *OVER, ("a",), thing), {})
            self.assertEqual(error_of(NoFocus, call, *OVER, ("z",), None), {"index": 0})
            for program, sampler in LARGE:
                self.assertEqual(error_of(TooMany, call, program, sampler, ("a",), 0), {"limit": 300})
            call(*FULL, ("a",), Share(1, 2))


class SurestTest(unittest.TestCase):

    def test_against_the_values_of_all_names(self):
        ties = set()
        for program, sampler, web, rings in ringed_cases():
            values = {}
            for name in program.names:
                pairs = [pair for shape in shapes_by_words(web, rings, (name,), sampler.period) for pair in shape]
                values[name] = max((true for true, seen in pairs if seen == 0), default=Fraction(-1))
            told = surest(program, sampler)
            self.assertIs(type(told), list)
            self.assertEqual(told, sorted(program.names, key=lambda name: values[name]), show(program, sampler))
            ties.add(len(program) - len(set(values.values())))
        self.assertGreater(max(ties), 0)

    def test_none_and_equal_values_and_the_order_of_the_program(self):
        program = program_of("d 1 1 open d, c 1 1 open c b, b 1 1 closed b, a 1 1 open a d", start="c")
        self.assertEqual(surest(program, Sampler(1)), ["d", "c", "a", "b"])
        self.assertEqual([str(hidden(program, Sampler(1), (name,))) for name in program.names], ["0", "0", "1", "0"])
        self.assertEqual(surest(program_of("b 1 1 open a, a 1 1 closed b"), Sampler(1)), ["b", "a"])
        self.assertEqual(surest(program_of("b 1 1 closed a, a 1 1 open b"), Sampler(1)), ["a", "b"])
        self.assertEqual(surest(NO_KNOT, EVEN), ["a", "b"])
        self.assertEqual(surest(THREE_KNOTS, Sampler(1)), ["z", "x", "w", "y"])

    def test_six_names_of_a_large_web(self):
        program = woven("closed", 2, 2, 2, 4, 4, 3)
        self.assertEqual(surest(program, Sampler(7, 6)), list("abcdef"))
        self.assertEqual(surest(*FULL), list("abcde"))

    def test_a_list_that_was_told_may_be_changed(self):
        surest(TWO, EVEN).clear()
        self.assertEqual(surest(TWO, EVEN), ["a", "b"])

    def test_too_many_states(self):
        for program, sampler in LARGE:
            self.assertEqual(error_of(TooMany, surest, program, sampler), {"limit": 300})


if __name__ == "__main__":
    unittest.main()
