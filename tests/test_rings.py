"""Points 8.1 and 8.2, and 0.5 and 0.6 as far as they speak of rings and roads."""

import copy
import inspect
import unittest

from seenshares.errors import NoCorner, NoFocus, NoKnot, NoState, NoTicks, TooMany
from seenshares.polygons import polygon
from seenshares.rings import as_run, lead, ring, ring_fault
from seenshares.runs import observe
from seenshares.samplers import Sampler
from seenshares.shares import Share
from seenshares.states import first_states, reached, steps
from tests.cases import (CASES, FULL, LARGE, OVER, all_runs, all_states, error_of, program_of, road_by_words, show,
                         woven)
from tests.objects import others
from tests.webs import (NO_KNOT, THREE_KNOTS, TWO_KNOTS, focuses, fractions_of, knots_by_words, pair_by_words,
                        ringed_cases, web_of)

TWO = program_of("a 1 1 open b, b 1 2 open a")
EVEN = Sampler(2)
RING = [("a", 1, 1, True, False), ("b", 1, 0, True, False)]
HALF = Share(1, 2)
CLOSED = program_of("a 1 2 open b, b 1 2 closed a")
# Three a in six ticks, and one note of a for each slot of three ticks.
LONG_RING = [("b", 1, 2, True, False), ("a", 1, 0, True, False), ("b", 1, 1, True, False), ("a", 1, 2, True, False),
             ("b", 1, 0, True, True), ("a", 1, 1, True, False)]
WRONG_PARTS = [
    ("a", True, 1, True, False), ("a", 1, True, True, False), ("a", 1, 1, 1, False), ("a", 1, 1, True, 0),
    ("a", 1.0, 1, True, False), ["a", 1, 1, True, False], ("a", 1, 1, True), ("a", 1, 1, True, False, False),
    ("c", 1, 1, True, False), ("a", 1, 2, True, False), ("a", 2, 1, True, False), ("a", 1, 1, True, True),
    ("a", 1, 1, False, False), ([], {}, set(), [[]], None), (("a",), 1, 1, True, False),
]


class RingTest(unittest.TestCase):

    def test_the_parameters(self):
        self.assertEqual(str(inspect.signature(ring)), "(program, sampler, focus, knot, corner)")
        self.assertEqual(str(inspect.signature(ring_fault)), "(program, sampler, focus, ring, pair)")
        self.assertEqual(str(inspect.signature(lead)), "(program, sampler, state)")
        self.assertEqual(str(inspect.signature(as_run)), "(program, sampler, states)")

    def test_each_corner_has_a_ring(self):
        cases = [(program, sampler, web) for program, sampler, web, _ in ringed_cases()]
        for program, sampler in [FULL, (woven("open", 5, 5, 5, 5), Sampler(8, 7))]:
            cases.append((program, sampler, web_of(program, sampler)))
        for program, sampler, web in cases:
            held = knots_by_words(web)
            for focus in focuses(program):
                for at, states in enumerate(held):
                    for corner in polygon(program, sampler, focus, at):
                        told = ring(program, sampler, focus, at, corner)
                        self.assertIs(type(told), list)
                        self.assertTrue(1 <= len(told) <= 300)
                        self.assertTrue(all(state in states for state in told))
                        self.assertTrue(all(state in web[told[k - 1]] for k, state in enumerate(told)))
                        self.assertEqual(repr(told), repr([state for one in told for state in states if state == one]))
                        pair = pair_by_words(told, web, focus, sampler.period)
                        self.assertEqual(pair, fractions_of([corner])[0], (show(program, sampler), focus, at))
                        self.assertIsNone(ring_fault(program, sampler, focus, told, corner))

    def test_integers_and_shares_mean_the_same(self):
        for corner in ((1, 1), (Share(1), Share(1)), (1, Share(1)), (Share(2, 2), 1)):
            told = ring(TWO_KNOTS, Sampler(2), ("b",), 0, corner)
            self.assertIsNone(ring_fault(TWO_KNOTS, Sampler(2), ("b",), told, corner))
        self.assertEqual(ring(TWO_KNOTS, Sampler(1), ("b",), 0, (1, 1)), [("b", 1, 0, True, False)])

    def test_a_list_that_was_told_may_be_changed(self):
        corner = (HALF, Share(0))
        told = ring(TWO, EVEN, ("a",), 0, corner)
        told.clear()
        self.assertIsNone(ring_fault(TWO, EVEN, ("a",), ring(TWO, EVEN, ("a",), 0, corner), corner))

    def test_what_is_no_corner(self):
        for thing in others() + [(), (HALF,), (HALF, 1, 1), [HALF, 1], (HALF, True), (True, 1), (HALF, False),
                                 (HALF, "1"), ("1/2", 1), (HALF, None), (0.5, 1), (HALF, 1.0), ((HALF, 1),), ([], {}),
                                 (HALF, HALF), (1, HALF), (Share(1, 3), Share(2, 3)), (0, HALF), (0, 0), (1, 1),
                                 (HALF, -1), (HALF, 10 ** 99)]:
            self.assertIs(error_of(NoCorner, ring, TWO, EVEN, ("a",), 0, thing)["corner"], thing)

    def test_the_corner_of_another_knot_is_none(self):
        corner = (Share(1), Share(1))
        self.assertIs(error_of(NoCorner, ring, TWO_KNOTS, EVEN, ("b",), 1, corner)["corner"], corner)

    def test_the_order_of_the_errors(self):
        self.assertEqual(error_of(NoFocus, ring, *OVER, ("a", "a"), None, None), {"index": 1})
        self.assertEqual(error_of(TooMany, ring, *OVER, ("a",), None, None), {"limit": 300})
        self.assertEqual(error_of(NoKnot, ring, TWO, EVEN, ("a",), 1, None), {"index": 1})
        self.assertEqual(error_of(NoKnot, ring, NO_KNOT, EVEN, ("a",), 0, None), {"index": 0})


class RingFaultTest(unittest.TestCase):

    def fault(self, states, pair=(HALF, 0), program=TWO, sampler=EVEN, focus=("a",)):
        before = list(states)
        told = ring_fault(program, sampler, focus, states, pair)
        self.assertEqual([id(item) for item in states], [id(item) for item in before])
        return told

    def test_rings_without_fault(self):
        self.assertIsNone(self.fault(RING))
        self.assertIsNone(self.fault(RING[::-1]))
        self.assertIsNone(self.fault(RING * 1000))
        self.assertIsNone(self.fault(RING, (HALF, 1), focus=("b",)))
        self.assertIsNone(self.fault(RING, (1, 1), focus=("b", "a")))
        self.assertIsNone(self.fault(RING, (Share(1), Share(1)), focus=("b", "a")))
        self.assertIsNone(self.fault([("b", 1, 0, True, False)], (1, 1), TWO_KNOTS, Sampler(1), ("b",)))
        self.assertIsNone(self.fault(LONG_RING, (HALF, 1), program_of("a 1 1 open b, b 1 1 closed a"), Sampler(3)))

    def test_all_rings_of_small_programs(self):
        for program, sampler, web, rings in ringed_cases():
            focus = (program.names[0],)
            for states in rings:
                one, two = pair_by_words(states, web, focus, sampler.period)
                pair = (Share(one.numerator, one.denominator), Share(two.numerator, two.denominator))
                self.assertIsNone(ring_fault(program, sampler, focus, states, pair))
                self.assertIsNone(ring_fault(program, sampler, focus, states + states, pair))

    def test_an_empty_list(self):
        self.assertEqual(self.fault([]), ("empty",))
        self.assertEqual(self.fault([], (7, 7)), ("empty",))

    def test_another_pair(self):
        for pair in ((HALF, 1), (HALF, HALF), (1, 0), (0, 0), (Share(1, 3), 0), (10 ** 99, -10 ** 99)):
            self.assertEqual(self.fault(RING, pair), ("pair",))
        self.assertEqual(self.fault(RING, (HALF, 1)), ("pair",))
        self.assertEqual(self.fault(RING + RING, (HALF, 2)), ("pair",))

    def test_items_that_are_no_states(self):
        for thing in others() + WRONG_PARTS:
            self.assertEqual(self.fault([thing]), ("state", 0))
            self.assertEqual(self.fault([thing, RING[1]]), ("state", 0))
            self.assertEqual(self.fault(RING + [thing] + RING[1:]), ("state", 2))
            self.assertEqual(self.fault(RING + [RING[0], thing, thing]), ("state", 0))
            # The last item is no reached state, so no step leads from it to the first one.
            self.assertEqual(self.fault([RING[0], thing]), ("state", 0))

    def test_states_that_are_not_reached(self):
        program = program_of("a 1 1 open b, b 1 2 open a, c 1 1 open a")
        hidden = ("c", 1, 1, True, False)
        self.assertEqual(self.fault([hidden], program=program), ("state", 0))
        self.assertEqual(self.fault(RING + [hidden] + RING, program=program), ("state", 2))
        self.assertEqual(self.fault(RING + [hidden], program=program), ("state", 0))
        # A ring of states from step to step, none of which is reached.
        apart = program_of("a 1 1 open, b 1 1 open b")
        self.assertEqual(self.fault([("b", 1, 0, True, False)], program=apart, sampler=Sampler(1)), ("state", 0))

    def test_steps_that_are_none(self):
        self.assertEqual(self.fault([RING[0]]), ("state", 0))
        self.assertEqual(self.fault([RING[0], RING[1], RING[1]]), ("state", 2))
        self.assertEqual(self.fault([RING[0], RING[0], RING[1]]), ("state", 1))
        self.assertEqual(self.fault(RING + RING[::-1]), ("state", 0))
        self.assertEqual(self.fault(RING + [RING[1]] + RING), ("state", 2))
        self.assertEqual(self.fault(RING * 998 + [RING[0], RING[0]] + RING[1:]), ("state", 1997))
        for at in range(6):
            states = list(LONG_RING)
            del states[at]
            program = program_of("a 1 1 open b, b 1 1 closed a")
            self.assertEqual(self.fault(states, (HALF, 1), program, Sampler(3)), ("state", at % 5))

    def test_the_order_of_the_errors(self):
        self.assertEqual(error_of(NoFocus, ring_fault, *OVER, (), [], (0, 0)), {"index": -1})
        for states in ([], [None]):
            self.assertEqual(error_of(TooMany, ring_fault, *OVER, ("a",), states, (0, 0)), {"limit": 300})


class LeadTest(unittest.TestCase):

    def test_roads_of_the_fewest_states(self):
        for program, sampler in CASES + [(TWO_KNOTS, Sampler(3, 1)), (THREE_KNOTS, EVEN)]:
            web = web_of(program, sampler)
            starts = {state for state, _ in first_states(program, sampler)}
            found, layer, many = {}, starts, 0
            while layer:
                many += 1
                found.update({state: many for state in layer})
                layer = {after for state in layer for after in web[state]} - set(found)
            for state in web:
                road = lead(program, sampler, state)
                self.assertIs(type(road), list)
                self.assertEqual(repr(road[-1]), repr(state))
                self.assertIn(road[0], starts)
                self.assertTrue(all(two in web[one] for one, two in zip(road, road[1:])))
                self.assertEqual(len(road), found[state], (show(program, sampler), state))

    def test_a_start_state_is_its_own_road(self):
        for program, sampler in CASES:
            for state, _ in first_states(program, sampler):
                self.assertEqual(lead(program, sampler, state), [state])

    def test_a_large_web(self):
        for state in web_of(*FULL):
            road = lead(*FULL, state)
            self.assertEqual(observe(*FULL, *as_run(*FULL, road)[1:]).ticks, len(road))

    def test_what_is_no_state(self):
        for thing in others() + WRONG_PARTS + [("a", 2, 0, True, False)]:
            self.assertEqual(error_of(NoState, lead, TWO, EVEN, thing), {})
        for thing in others() + [("a", 1, 6, 1, False), ("a", True, 6, True, False), ("g", 1, 6, True, False)]:
            self.assertEqual(error_of(NoState, lead, *OVER, thing), {})

    def test_states_that_are_not_reached(self):
        for program, sampler in CASES[::3]:
            web = web_of(program, sampler)
            for state in all_states(program, sampler):
                if state not in web:
                    self.assertEqual(error_of(NoState, lead, program, sampler, state), {})

    def test_too_many_comes_between(self):
        self.assertEqual(error_of(TooMany, lead, *OVER, ("a", 1, 6, True, False)), {"limit": 300})
        start = first_states(*OVER)[0][0]
        self.assertEqual(error_of(TooMany, lead, *OVER, start), {"limit": 300})
        self.assertEqual(error_of(NoState, lead, *OVER, ("a", 1, 6, False, False)), {})


class AsRunTest(unittest.TestCase):

    def test_the_road_of_each_run_tells_the_run(self):
        for program, sampler in CASES:
            for ticks in range(1, 7):
                for run in all_runs(program, sampler, ticks):
                    road = [state for state, _ in road_by_words(program, sampler, *run)]
                    told = as_run(program, sampler, road)
                    self.assertEqual(repr(told), repr(run), show(program, sampler))
                    self.assertEqual([type(told)] + [type(part) for part in told], [tuple, int, list, list])

    def check_record(self, program, sampler, road):
        """Hold the run of a road against the record of observe."""
        flags = [dict(first_states(program, sampler))[road[0]]]
        flags += [dict(steps(program, sampler, one))[two] for one, two in zip(road, road[1:])]
        phase, stays, looks = as_run(program, sampler, road)
        record = observe(program, sampler, stays, looks, phase=phase)
        names = [state[0] for state in road]
        self.assertEqual(record.ticks, len(road))
        self.assertEqual(record.times, {name: names.count(name) for name in program.names})
        self.assertEqual(record.notes, [(tick, names[tick]) for tick in range(len(road)) if flags[tick]])
        self.assertEqual(record.waiting, road[-1][4])

    def test_what_observe_tells_of_it(self):
        for program, sampler in CASES[::2] + [FULL]:
            for state in reached(program, sampler):
                road = lead(program, sampler, state)
                self.check_record(program, sampler, road)
                # The same road with some states more: by turns the first and the last of the next ones.
                while len(road) % 10 and (pairs := steps(program, sampler, road[-1])):
                    road.append(pairs[-(len(road) % 2)][0])
                self.check_record(program, sampler, road)

    def test_looks_that_are_none(self):
        road = [("a", 1, 2, True, False), ("a", 2, 3, True, False), ("b", 1, 0, False, False)]
        self.assertEqual(as_run(CLOSED, Sampler(4, 1, phase=None), road), (2, [("a", 2), ("b", 1)], [None, None]))
        road = [("a", 1, 1, False, False), ("b", 1, 2, True, True), ("b", 2, 3, True, True), ("a", 1, 0, True, False)]
        self.assertEqual(as_run(CLOSED, Sampler(4, 2, phase=1), road), (1, [("a", 1), ("b", 2), ("a", 1)], [2, 0]))

    def test_own_nexts_begin_new_stays(self):
        program = program_of("a 1 2 open a")
        road = [("a", 1, 0, True, False), ("a", 1, 0, True, False), ("a", 2, 0, True, False), ("a", 1, 0, True, False)]
        self.assertEqual(as_run(program, Sampler(1), road), (0, [("a", 1), ("a", 2), ("a", 1)], [0, 0, 0, 0]))

    def test_2000_states_and_one_more(self):
        road = [("a", 1, 0, True, False), ("b", 1, 1, True, False)] * 1000
        phase, stays, looks = as_run(TWO, EVEN, road)
        self.assertEqual((phase, len(stays), looks), (0, 2000, [0] * 1000))
        self.assertEqual(error_of(NoTicks, as_run, TWO, EVEN, road + road[:1]), {})

    def test_a_list_of_more_items_of_any_kind(self):
        for thing in others():
            self.assertEqual(error_of(NoTicks, as_run, TWO, EVEN, [thing] * 2001), {})
            self.assertEqual(error_of(NoState, as_run, TWO, EVEN, [thing] * 2000), {})
        self.assertEqual(error_of(NoState, as_run, TWO, EVEN, (RING[0],) * 2001), {})
        self.assertEqual(error_of(NoState, as_run, TWO, EVEN, "a" * 2001), {})
        self.assertEqual(error_of(NoState, as_run, TWO, EVEN, dict.fromkeys(range(2001))), {})

    def test_what_is_no_road(self):
        start, later = ("a", 1, 0, True, False), ("b", 1, 1, True, False)
        for thing in others() + [[], (start,), start, {start: 1}, [[start]], [later], [start, start],
                                 [start, ("b", 1, 0, True, False)], [start, later, start, start], RING]:
            self.assertEqual(error_of(NoState, as_run, TWO, EVEN, thing), {})
        for thing in others() + WRONG_PARTS + [("a", True, 0, True, False), ("a", 1, False, True, False),
                                               ("a", 1, 0, 1, False), ("b", 1, True, True, False)]:
            for road in ([thing], [start, thing], [start, later, thing], [thing, later]):
                self.assertEqual(error_of(NoState, as_run, TWO, EVEN, road), {})

    def test_the_road_stays(self):
        road = [("a", 1, 0, True, False), ("b", 1, 1, True, False), ("b", 2, 0, True, False)]
        before = copy.deepcopy(road)
        as_run(TWO, EVEN, road)
        self.assertEqual(road, before)

    def test_it_does_not_need_the_web(self):
        for program, sampler in LARGE:
            for state, _ in first_states(program, sampler):
                self.assertEqual(as_run(program, sampler, [state])[:2], (state[2], [("a", 1)]))
            self.assertEqual(error_of(NoState, as_run, program, sampler, []), {})


if __name__ == "__main__":
    unittest.main()
