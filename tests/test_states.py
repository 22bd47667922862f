"""Points 5.1 to 5.7, and 0.5 and 0.6 as far as they speak of states."""

import inspect
import unittest

from seenshares.errors import NoState, TooMany
from seenshares.samplers import Sampler
from seenshares.states import first_states, reach, reached, steps
from tests.cases import (CASES, FULL, LARGE, OVER, all_runs, all_states, error_of, program_of, road_by_words, show)
from tests.objects import others

CLOSED = program_of("a 2 4 closed b a, b 1 1 open")


def flat(pairs):
    """A key that tells True from 1."""
    return repr(pairs)


def steps_by_words(program, sampler, state):
    """The steps of point 5.4, from all pairs of a state and a flag."""
    found = []
    name, spent, slot, done, waits = state
    for after in all_states(program, sampler):
        goes_on = after[:2] == (name, spent + 1)
        is_new = spent >= program[name].least and after[0] in program.nexts[name] and after[1] == 1
        if not (goes_on or is_new) or after[2] != (slot + 1) % sampler.period:
            continue
        before = done if after[2] > 0 else False
        if before and not after[3]:
            continue
        looks = waits or (after[3] and not before)
        if after[4] == (looks and not program[after[0]].let):
            found.append((after, looks and program[after[0]].let))
    return sorted(found)


class FirstTest(unittest.TestCase):

    def test_against_all_runs_of_one_tick(self):
        for program, sampler in CASES:
            right = sorted({road_by_words(program, sampler, *run)[0] for run in all_runs(program, sampler, 1)})
            self.assertEqual(flat(first_states(program, sampler)), flat(right), show(program, sampler))

    def test_each_phase_and_none(self):
        program = program_of("a 1 2 open b, b 1 2 closed a")
        right = {
            0: [(("a", 1, 0, False, False), False), (("a", 1, 0, True, False), True)],
            1: [(("a", 1, 1, False, False), False), (("a", 1, 1, True, False), True)],
            2: [(("a", 1, 2, True, False), True)],
            3: [(("a", 1, 3, True, False), False)],
            4: [(("a", 1, 4, True, False), False)],
        }
        for phase, pairs in right.items():
            self.assertEqual(flat(first_states(program, Sampler(5, 2, phase=phase))), flat(pairs))
        self.assertEqual(flat(first_states(program, Sampler(5, 2, phase=None))), flat(sum(right.values(), [])))

    def test_a_closed_start(self):
        program = program_of("a 1 2 open b, b 1 2 closed a", start="b")
        right = [
            (("b", 1, 0, False, False), False), (("b", 1, 0, True, True), False), (("b", 1, 1, True, True), False),
            (("b", 1, 2, True, False), False),
        ]
        self.assertEqual(flat(first_states(program, Sampler(3, 1, phase=None))), flat(right))

    def test_period_one(self):
        self.assertEqual(flat(first_states(program_of("a 1 1 open"), Sampler(1))),
                         flat([(("a", 1, 0, True, False), True)]))


class StepsTest(unittest.TestCase):

    def test_the_parameters(self):
        self.assertEqual(str(inspect.signature(first_states)), "(program, sampler)")
        self.assertEqual(str(inspect.signature(steps)), "(program, sampler, state)")
        self.assertEqual(str(inspect.signature(reached)), "(program, sampler)")
        self.assertEqual(str(inspect.signature(reach)), "(program, sampler)")

    def test_against_all_runs(self):
        for program, sampler in CASES:
            found = {}
            for run in all_runs(program, sampler, 6):
                road = road_by_words(program, sampler, *run)
                for (state, _), pair in zip(road, road[1:]):
                    found.setdefault(state, set()).add(pair)
            for state, pairs in found.items():
                self.assertEqual(flat(steps(program, sampler, state)), flat(sorted(pairs)), show(program, sampler))

    def test_against_all_states_also_those_that_no_run_reaches(self):
        for program, sampler in CASES:
            for state in all_states(program, sampler):
                right = steps_by_words(program, sampler, state)
                self.assertEqual(flat(steps(program, sampler, state)), flat(right), (show(program, sampler), state))

    def test_stays_that_must_go_on_may_go_on_and_must_end(self):
        sampler = Sampler(5)
        self.assertEqual(steps(CLOSED, sampler, ("a", 1, 0, True, False)), [(("a", 2, 1, True, False), False)])
        self.assertEqual(steps(CLOSED, sampler, ("a", 2, 1, True, True)), [
            (("a", 1, 2, True, True), False), (("a", 3, 2, True, True), False), (("b", 1, 2, True, False), True)])
        self.assertEqual(steps(CLOSED, sampler, ("a", 4, 3, True, False)), [
            (("a", 1, 4, True, False), False), (("b", 1, 4, True, False), False)])

    def test_places_without_nexts(self):
        self.assertEqual(steps(CLOSED, Sampler(5), ("b", 1, 2, True, False)), [])
        alone = program_of("a 1 3 open")
        self.assertEqual(steps(alone, Sampler(2), ("a", 2, 1, True, False)), [(("a", 3, 0, True, False), True)])
        self.assertEqual(steps(alone, Sampler(2), ("a", 3, 0, True, False)), [])

    def test_states_that_no_run_can_reach(self):
        program = program_of("a 1 1 open a, b 1 2 closed a")
        self.assertEqual(steps(program, Sampler(3, 1), ("b", 1, 2, True, True)), [
            (("a", 1, 0, False, False), True), (("a", 1, 0, True, False), True),
            (("b", 2, 0, False, True), False), (("b", 2, 0, True, True), False)])

    def test_a_list_that_was_told_may_be_changed(self):
        state = ("a", 2, 1, True, True)
        before = steps(CLOSED, Sampler(5), state)
        steps(CLOSED, Sampler(5), state).clear()
        first_states(CLOSED, Sampler(5)).clear()
        self.assertEqual(steps(CLOSED, Sampler(5), state), before)
        self.assertEqual(len(first_states(CLOSED, Sampler(5))), 1)


class NoStateTest(unittest.TestCase):

    def refuse(self, state, program=CLOSED, sampler=Sampler(5, 2)):
        self.assertEqual(error_of(NoState, steps, program, sampler, state), {}, state)

    def test_what_is_no_tuple_of_five(self):
        for thing in others():
            self.refuse(thing)
        good = ("a", 1, 2, True, False)
        for thing in (list(good), good[:4], good + (False,), (good,), "a12TF", dict(enumerate(good))):
            self.refuse(thing)

    def test_other_kinds_in_each_place(self):
        good = ("a", 1, 2, True, False)
        steps(CLOSED, Sampler(5, 2), good)
        for at, kinds in enumerate([(str,), (int,), (int,), (bool,), (bool,)]):
            for thing in others(*kinds) + ([True, False] if kinds == (int,) else [0, 1]):
                self.refuse(good[:at] + (thing,) + good[at + 1:])

    def test_out_of_range(self):
        for state in [("c", 1, 2, True, False), ("", 1, 2, True, False), ("A", 1, 2, True, False),
                      ("a", 0, 2, True, False), ("a", -1, 2, True, False), ("a", 5, 2, True, False),
                      ("b", 2, 2, True, False), ("a", 1, -1, True, False), ("a", 1, 5, True, False),
                      ("a", 10 ** 99, 2, True, False), ("a", 1, 10 ** 99, True, False)]:
            self.refuse(state)

    def test_flags_that_are_ruled_out(self):
        for slot in (2, 3, 4):
            self.refuse(("a", 1, slot, False, False))
            self.refuse(("a", 1, slot, False, True))
        for slot in range(5):
            self.refuse(("b", 1, slot, True, True))
        self.refuse(("b", 1, 0, False, True))
        for state in (("a", 1, 0, False, True), ("a", 1, 1, False, False), ("a", 1, 0, True, True)):
            self.assertTrue(steps(CLOSED, Sampler(5, 2), state))

    def test_exactly_the_states_are_taken(self):
        flags = (False, True)
        for program, sampler in CASES[::3]:
            good = all_states(program, sampler)
            for state in [(name, spent, slot, done, waits) for name in "abcd" for spent in range(5)
                          for slot in range(-1, 5) for done in flags for waits in flags]:
                if state in good:
                    self.assertIs(type(steps(program, sampler, state)), list)
                else:
                    self.refuse(state, program, sampler)

    def test_it_does_not_need_the_web(self):
        for program, sampler in LARGE:
            self.assertTrue(first_states(program, sampler))
            self.assertTrue(steps(program, sampler, ("a", 1, sampler.period - 1, True, False)))
            self.refuse(("g", 1, 0, True, False), program, sampler)


class ReachTest(unittest.TestCase):

    def test_the_example(self):
        program = program_of("a 1 1 open b, b 1 1 closed a")
        states = [("a", 1, 0, True, False), ("b", 1, 1, True, False), ("a", 1, 2, True, False),
                  ("b", 1, 0, True, True), ("a", 1, 1, True, False), ("b", 1, 2, True, False)]
        self.assertEqual(reach(program, Sampler(3)), 6)
        self.assertEqual(list(reached(program, Sampler(3))), sorted(states))
        self.assertEqual(first_states(program, Sampler(3)), [(states[0], True)])
        for at, state in enumerate(states):
            pair = (states[(at + 1) % 6], at == 3 or at == 5)
            self.assertEqual(flat(steps(program, Sampler(3), state)), flat([pair]))

    def test_against_the_states_of_all_runs(self):
        for program, sampler in CASES:
            found, layer = set(), {state for state, _ in first_states(program, sampler)}
            while layer:
                found |= layer
                layer = {after for state in layer for after, _ in steps_by_words(program, sampler, state)} - found
            self.assertEqual(flat(list(reached(program, sampler))), flat(sorted(found)), show(program, sampler))
            self.assertEqual(reach(program, sampler), len(found))
            for run in all_runs(program, sampler, 5):
                self.assertTrue({state for state, _ in road_by_words(program, sampler, *run)} <= found)

    def test_the_whole_web_of_some_programs(self):
        self.assertEqual(list(reached(program_of("a 1 1 open"), Sampler(2))), [("a", 1, 0, True, False)])
        self.assertEqual(list(reached(program_of("a 1 1 closed a"), Sampler(1))), [("a", 1, 0, True, True)])
        self.assertEqual(list(reached(program_of("a 1 1 open b, b 1 1 open, c 1 1 open a"), Sampler(4))),
                         [("a", 1, 0, True, False), ("b", 1, 1, True, False)])

    def test_reached_is_a_generator(self):
        self.assertTrue(inspect.isgeneratorfunction(reached))
        told = reached(*FULL)
        one = next(told)
        self.assertEqual(one, next(reached(*FULL)))
        self.assertEqual(len(list(told)), 299)

    def test_300_states_and_one_more(self):
        self.assertEqual(reach(*FULL), 300)
        states = list(reached(*FULL))
        self.assertEqual(states, sorted(set(states)))
        self.assertEqual(len(states), 300)
        for program, sampler in LARGE:
            self.assertEqual(error_of(TooMany, reach, program, sampler), {"limit": 300})

    def test_one_state_too_many(self):
        found, layer = set(), {state for state, _ in first_states(*OVER)}
        while layer:
            found |= layer
            layer = {after for state in layer for after, _ in steps(*OVER, state)} - found
        self.assertEqual(len(found), 301)

    def test_reached_raises_when_its_iteration_begins(self):
        told = reached(*OVER)
        self.assertEqual(error_of(TooMany, next, told), {"limit": 300})


if __name__ == "__main__":
    unittest.main()
