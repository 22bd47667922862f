"""Points 6.1 to 6.4, and 0.5 and 0.6 as far as they speak of knots."""

import inspect
import unittest

from seenshares.errors import NoFocus, NoKnot, NoState, TooMany
from seenshares.knots import knot_of, knots
from seenshares.papers import paper, paper_fault
from seenshares.polygons import polygon
from seenshares.rings import ring
from seenshares.samplers import Sampler
from tests.cases import CASES, FULL, LARGE, OVER, all_states, error_of, program_of, show
from tests.objects import others
from tests.webs import NO_KNOT, THREE_KNOTS, TWO_KNOTS, knots_by_words, web_of


class KnotsTest(unittest.TestCase):

    def test_the_parameters(self):
        self.assertEqual(str(inspect.signature(knots)), "(program, sampler)")
        self.assertEqual(str(inspect.signature(knot_of)), "(program, sampler, state)")

    def test_no_knot(self):
        self.assertEqual(knots(NO_KNOT, Sampler(2, 1)), [])
        self.assertEqual(knots(program_of("a 1 6 open"), Sampler(1)), [])

    def test_a_single_state_with_a_step_to_itself(self):
        program = program_of("a 1 1 closed b, b 1 1 closed b")
        self.assertEqual(knots(program, Sampler(1)), [[("b", 1, 0, True, True)]])
        # The looks of the first ring are noted at last, those of the second one wait for ever.
        program = program_of("a 1 1 open a b, b 1 1 closed b")
        self.assertEqual(knots(program, Sampler(1)), [[("a", 1, 0, True, False)], [("b", 1, 0, True, True)]])

    def test_one_knot(self):
        program = program_of("a 1 1 open b, b 1 1 closed a")
        self.assertEqual(knots(program, Sampler(3)), [[
            ("a", 1, 0, True, False), ("a", 1, 1, True, False), ("a", 1, 2, True, False),
            ("b", 1, 0, True, True), ("b", 1, 1, True, False), ("b", 1, 2, True, False)]])

    def test_several_knots_and_states_in_none(self):
        self.assertEqual(knots(TWO_KNOTS, Sampler(1)), [
            [("b", 1, 0, True, False)], [("c", 1, 0, True, True), ("c", 2, 0, True, True)]])
        self.assertEqual(knots(TWO_KNOTS, Sampler(2)), [
            [("b", 1, 0, True, False), ("b", 1, 1, True, False)],
            [("c", 1, 0, True, True), ("c", 1, 1, True, True), ("c", 2, 0, True, True), ("c", 2, 1, True, True)]])
        found = knots(THREE_KNOTS, Sampler(1))
        self.assertEqual([held[0][0] for held in found], ["w", "y", "z"])

    def test_one_program_can_have_knots_that_differ_in_their_slots(self):
        program = program_of("a 1 1 open b, b 1 1 open a")
        self.assertEqual(knots(program, Sampler(2, phase=None)), [
            [("a", 1, 0, True, False), ("b", 1, 1, True, False)],
            [("a", 1, 1, True, False), ("b", 1, 0, True, False)]])

    def test_against_the_words(self):
        for program, sampler in CASES + [(program, sampler) for program in (NO_KNOT, TWO_KNOTS, THREE_KNOTS)
                                         for _, sampler in CASES[:14]]:
            right = knots_by_words(web_of(program, sampler))
            self.assertEqual(repr(knots(program, sampler)), repr(right), show(program, sampler))

    def test_a_list_that_was_told_may_be_changed(self):
        before = repr(knots(TWO_KNOTS, Sampler(2)))
        told = knots(TWO_KNOTS, Sampler(2))
        told[0].clear()
        told.pop()
        self.assertEqual(repr(knots(TWO_KNOTS, Sampler(2))), before)
        self.assertEqual(knot_of(TWO_KNOTS, Sampler(2), ("b", 1, 1, True, False)), 0)

    def test_300_states_and_one_more(self):
        self.assertEqual([len(held) for held in knots(*FULL)], [len(held) for held in knots_by_words(web_of(*FULL))])
        for program, sampler in LARGE:
            self.assertEqual(error_of(TooMany, knots, program, sampler), {"limit": 300})


class KnotOfTest(unittest.TestCase):

    def test_all_states(self):
        for program, sampler in CASES[::2] + [(TWO_KNOTS, Sampler(2, 1)), (THREE_KNOTS, Sampler(3, phase=None))]:
            web = web_of(program, sampler)
            right = {state: at for at, held in enumerate(knots_by_words(web)) for state in held}
            for state in all_states(program, sampler):
                self.assertEqual(knot_of(program, sampler, state), right.get(state), show(program, sampler))

    def test_a_state_in_no_knot_and_one_that_is_not_reached(self):
        self.assertIsNone(knot_of(TWO_KNOTS, Sampler(2), ("a", 1, 0, True, False)))
        self.assertIsNone(knot_of(TWO_KNOTS, Sampler(2), ("a", 1, 1, True, False)))
        self.assertIsNone(knot_of(TWO_KNOTS, Sampler(2), ("c", 1, 1, True, False)))
        self.assertEqual(knot_of(TWO_KNOTS, Sampler(2), ("c", 1, 1, True, True)), 1)

    def test_what_is_no_state(self):
        for thing in others() + [("b", 1, True, True, False), ("b", True, 0, True, False), ("b", 1, 0, 1, False),
                                 ("b", 1, 0, True, 0), ("b", 1, 0, True, True), ("b", 1, 0, True),
                                 ("b", 2, 0, True, False)]:
            self.assertEqual(error_of(NoState, knot_of, TWO_KNOTS, Sampler(2), thing), {})

    def test_no_state_comes_ahead_of_too_many(self):
        for thing in others() + [("a", 1, 0, 1, False)]:
            self.assertEqual(error_of(NoState, knot_of, *OVER, thing), {})
        self.assertEqual(error_of(TooMany, knot_of, *OVER, ("a", 1, 6, True, False)), {"limit": 300})


class NoKnotTest(unittest.TestCase):

    def calls(self, program, sampler, knot, focus=("b",)):
        yield polygon, program, sampler, focus, knot
        yield ring, program, sampler, focus, knot, (0, 0)
        yield paper, program, sampler, focus, knot, 1, 0
        yield paper_fault, program, sampler, focus, knot, 1, 0, 1, {}

    def test_what_is_no_index_of_a_knot(self):
        for thing in others(int) + [True, False, -1, 2, 3, 10 ** 99, "0"]:
            for call in self.calls(TWO_KNOTS, Sampler(2), thing):
                self.assertIs(error_of(NoKnot, *call)["index"], thing)

    def test_no_knot_at_all(self):
        for thing in (0, -1, None):
            for call in self.calls(NO_KNOT, Sampler(2), thing):
                self.assertIs(error_of(NoKnot, *call)["index"], thing)

    def test_the_indexes_of_knots_are_taken(self):
        for at in (0, 1):
            self.assertTrue(polygon(TWO_KNOTS, Sampler(2), ("b",), at))
            self.assertTrue(paper(TWO_KNOTS, Sampler(2), ("b",), at, 1, 0))
            self.assertTrue(paper_fault(TWO_KNOTS, Sampler(2), ("b",), at, 1, 0, 1, {}))
        self.assertTrue(ring(TWO_KNOTS, Sampler(2), ("b",), 0, (1, 1)))
        self.assertTrue(ring(TWO_KNOTS, Sampler(2), ("b",), 1, (0, 0)))

    def test_the_focus_and_the_web_come_first(self):
        for call in self.calls(*OVER, None):
            self.assertEqual(error_of(TooMany, *call), {"limit": 300})
        for call in self.calls(*OVER, None, ("b", "b")):
            self.assertEqual(error_of(NoFocus, *call), {"index": 1})


if __name__ == "__main__":
    unittest.main()
