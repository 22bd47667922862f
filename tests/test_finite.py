"""Points 10.1 to 10.5, and 0.5 and 0.6 as far as they speak of finite runs."""

import inspect
import unittest

from seenshares.bounds import over, under
from seenshares.errors import NoBound, NoFocus, NoLeast, NoSide, TooMany
from seenshares.finite import certificate, certificate_fault, excess, worst
from seenshares.runs import observe, seen_of, times_of
from seenshares.samplers import Sampler
from seenshares.shares import Share
from seenshares.states import first_states
from tests.cases import CASES, FULL, LARGE, OVER, error_of, program_of, short_runs, show, woven
from tests.objects import others
from tests.webs import (NO_KNOT, THREE_KNOTS, TWO_KNOTS, focuses, pair_by_words, ringed_cases, web_of)

TWO = program_of("a 1 1 open b, b 1 2 open a")
EVEN = Sampler(2)
ALL = ("a", "b")
SIDES = ("over", "under")
# A program that can only go one way, whose last place alone is closed.
LINE = program_of("a 3 3 open b, b 1 1 closed a")
MIXED = CASES + [(program, sampler) for program in (NO_KNOT, TWO_KNOTS, THREE_KNOTS) for _, sampler in CASES[:6]]


def excess_by_words(told, focus, period, side):
    """The excess of point 10.1 of the five attributes of a record."""
    seen = period * len([name for _, name in told[2] if name in focus])
    spent = sum(told[1][name] for name in focus)
    return seen - spent if side == "over" else spent - seen


def gain_by_words(state, noted, focus, period, side):
    """The gain of point 10.4 of a step to a state."""
    f = 1 if state[0] in focus else 0
    m = 1 if noted and state[0] in focus else 0
    return period * m - f if side == "over" else f - period * m


def sums_by_words(web, focus, period, side):
    """The greatest sum of gains over all ways on from each state that have at most as many steps as there are states.

    Where no ring gains, longer ways add nothing.
    """
    sums = {state: 0 for state in web}
    for _ in web:
        sums = {state: max([0] + [gain_by_words(after, noted, focus, period, side) + sums[after]
                                  for after, noted in web[state].items()]) for state in web}
    return sums


def faults_by_words(program, sampler, focus, side, given, most):
    """All faults of point 10.5, in their order, of a dict."""
    web = web_of(program, sampler)
    rows = {state: [value for key, value in given.items() if key == state and type(value) is int] for state in web}
    lacks = [("lacks", state) for state in web if not rows[state]]
    if lacks:
        return lacks
    value = {state: rows[state][0] for state in web}
    found = [("stop", state) for state in web if value[state] < 0]
    for state, noted in first_states(program, sampler):
        if gain_by_words(state, noted, focus, sampler.period, side) + value[state] > most:
            found.append(("begin", state))
    for state in web:
        for after in web:
            if after in web[state]:
                gain = gain_by_words(after, web[state][after], focus, sampler.period, side)
                if gain + value[after] > value[state]:
                    found.append(("step", state, after))
    return found


class ExcessTest(unittest.TestCase):

    def test_the_parameters(self):
        self.assertEqual(str(inspect.signature(excess)), "(program, sampler, focus, side)")
        self.assertEqual(str(inspect.signature(worst)), "(program, sampler, focus, side, least)")
        self.assertEqual(str(inspect.signature(certificate)), "(program, sampler, focus, side)")
        self.assertEqual(str(inspect.signature(certificate_fault)),
                         "(program, sampler, focus, side, certificate, most)")

    def test_against_all_short_runs(self):
        values = set()
        for program, sampler in MIXED:
            runs = [told for _, told in short_runs(program, sampler, 8)]
            for focus in focuses(program):
                for side in SIDES:
                    most = max(excess_by_words(told, focus, sampler.period, side) for told in runs)
                    told = excess(program, sampler, focus, side)
                    if told != ("endless",):
                        # In these programs eight ticks are enough for the greatest excess.
                        self.assertEqual(told, ("most", most), (show(program, sampler), focus, side))
                        self.assertEqual([type(told), type(told[1])], [tuple, int])
                        values.add((most > 0) - (most < 0))
                    self.assertEqual(excess(program, sampler, focus[::-1], side), told)
        self.assertEqual(values, {-1, 0, 1})

    def test_endless_exactly_where_a_ring_gains(self):
        seen = set()
        for program, sampler, web, rings in ringed_cases():
            for focus in focuses(program):
                pairs = [pair_by_words(one, web, focus, sampler.period) for one in rings]
                for side, call, sign in (("over", over, -1), ("under", under, 1)):
                    gains = any(sign * (true - shown) > 0 for true, shown in pairs)
                    value = call(program, sampler, focus)
                    self.assertIs(value is not None and value > 0, gains)
                    self.assertIs(excess(program, sampler, focus, side) == ("endless",), gains)
                    self.assertIs(certificate(program, sampler, focus, side) is None, gains)
                    seen.add(gains)
        self.assertEqual(seen, {True, False})

    def test_endless_runs_go_beyond_any_number(self):
        for side in SIDES:
            self.assertEqual(excess(TWO, EVEN, ("a",), side), ("endless",))
            for least in (0, 1, 7, 60):
                self.assertIsNotNone(worst(TWO, EVEN, ("a",), side, least))

    def test_a_number_below_0(self):
        closed = program_of("a 2 2 closed a")
        self.assertEqual(excess(closed, EVEN, ("a",), "over"), ("most", -1))
        self.assertEqual(excess(program_of("a 1 3 open"), Sampler(1), ("a",), "over"), ("most", 0))
        self.assertEqual(excess(program_of("a 1 3 open"), Sampler(3), ("a",), "under"), ("most", 0))
        self.assertEqual(excess(program_of("a 1 1 open"), Sampler(3), ("a",), "under"), ("most", -2))

    def test_programs_that_can_only_go_one_way(self):
        self.assertEqual(excess(LINE, Sampler(1), ("b",), "under"), ("endless",))
        self.assertEqual(excess(LINE, Sampler(1), ("b",), "over"), ("most", 0))
        self.assertEqual(excess(LINE, Sampler(1), ("a",), "over"), ("most", 0))
        self.assertEqual(excess(LINE, Sampler(4), ("a",), "over"), ("endless",))
        self.assertEqual(excess(LINE, Sampler(4), ("a",), "under"), ("most", -1))
        self.assertEqual(excess(program_of("a 2 2 open b, b 3 3 closed"), Sampler(1), ("b",), "under"), ("most", 3))
        self.assertEqual(excess(program_of("a 2 2 open b, b 3 3 closed"), Sampler(8), ("b", "a"), "over"), ("most", 7))

    def test_a_large_web(self):
        # The run begins at a closed place of the focus.
        self.assertEqual(excess(*FULL, ("a",), "over"), ("most", -1))
        self.assertEqual(excess(*FULL, ("a",), "under"), ("endless",))
        program, sampler = woven("open", 5, 5, 5, 5), Sampler(8, 7)
        told = [excess(program, sampler, program.names, side) for side in SIDES]
        self.assertEqual(told, [("most", 7), ("most", 7)])

    def test_the_order_of_the_errors(self):
        self.check_order(excess)
        excess(*FULL, ("a",), "over")

    def check_order(self, call, *rest):
        for thing in others(tuple) + [()]:
            self.assertEqual(error_of(NoFocus, call, *OVER, thing, None, *rest), {"index": -1})
        self.assertEqual(error_of(NoFocus, call, *OVER, ("a", "z"), None, *rest), {"index": 1})
        for thing in others(str) + ["", "Over", "over ", "hidden"]:
            self.assertEqual(error_of(NoSide, call, *OVER, ("a",), thing, *rest), {})
        for program, sampler in LARGE:
            self.assertEqual(error_of(TooMany, call, program, sampler, ("a",), "under", *rest), {"limit": 300})


class WorstTest(unittest.TestCase):

    def observed(self, program, sampler, run):
        phase, stays, looks = run
        self.assertEqual([type(run), type(phase), type(stays), type(looks)], [tuple, int, list, list])
        return observe(program, sampler, stays, looks, phase=phase)

    def test_against_all_short_runs(self):
        nones = 0
        for program, sampler in MIXED:
            runs = [told for _, told in short_runs(program, sampler, 8)]
            for focus in focuses(program)[:3]:
                for side in SIDES:
                    for least in range(5):
                        fits = [told[0] for told in runs
                                if excess_by_words(told, focus, sampler.period, side) >= least]
                        told = worst(program, sampler, focus, side, least)
                        ticks = self.check(program, sampler, focus, side, least, told)
                        if fits or ticks is not None and ticks <= 8:
                            self.assertEqual(ticks, min(fits), (show(program, sampler), focus, side, least))
                        nones += ticks is None
        self.assertGreater(nones, 100)

    def check(self, program, sampler, focus, side, least, told):
        """The ticks of a run that was told, or None."""
        if told is None:
            most = excess(program, sampler, focus, side)
            self.assertTrue(most == ("endless",) or most[1] < least)
            return None
        record = self.observed(program, sampler, told)
        gain = seen_of(record, focus, sampler) - times_of(record, focus)
        self.assertGreaterEqual(gain if side == "over" else -gain, least)
        self.assertLessEqual(record.ticks, 200)
        return record.ticks

    def test_least_0_and_60(self):
        self.assertEqual(worst(TWO, EVEN, ("a",), "over", 0), (0, [("a", 1)], [0]))
        self.assertEqual(worst(TWO, EVEN, ("b",), "under", 0), (0, [("a", 1)], [0]))
        self.assertIsNone(worst(program_of("a 2 2 closed a"), EVEN, ("a",), "over", 0))
        self.assertIsNone(worst(TWO, EVEN, ("a", "b"), "over", 60))
        record = self.observed(TWO, EVEN, worst(TWO, EVEN, ("a",), "over", 60))
        # Behind 2 n - 1 ticks n of them are at a, each with a note that tells two.
        self.assertEqual(record.ticks, 119)
        record = self.observed(*FULL, worst(*FULL, ("a",), "under", 60))
        self.assertEqual(record.ticks, 60)

    def test_200_ticks_and_more(self):
        # Each fourth tick is at b and is never noted there.
        for least, ticks in ((1, 4), (49, 196), (50, 200)):
            told = worst(LINE, Sampler(1), ("b",), "under", least)
            self.assertEqual(self.observed(LINE, Sampler(1), told).ticks, ticks)
        for least in (51, 60):
            self.assertIsNone(worst(LINE, Sampler(1), ("b",), "under", least))
        later = program_of("a 3 3 open b, b 1 1 closed a, c 1 1 open a", start="c")
        self.assertEqual(self.observed(later, Sampler(1), worst(later, Sampler(1), ("b",), "under", 49)).ticks, 197)
        # The run of 201 ticks that has this excess is too long.
        self.assertIsNone(worst(later, Sampler(1), ("b",), "under", 50))

    def test_a_run_that_was_told_may_be_changed(self):
        first = worst(TWO, EVEN, ("a",), "over", 0)
        first[1].clear()
        first[2].clear()
        self.assertEqual(worst(TWO, EVEN, ("a",), "over", 0), (0, [("a", 1)], [0]))

    def test_the_order_of_the_errors(self):
        ExcessTest.check_order(self, worst, 0)
        ExcessTest.check_order(self, worst, 60)
        self.assertEqual(error_of(NoFocus, worst, *OVER, ("a", "z"), None, None), {"index": 1})
        self.assertEqual(error_of(NoSide, worst, *OVER, ("a",), None, None), {})
        for thing in others(int) + [True, False, -1, 61, 10 ** 99, Share(7)]:
            self.assertEqual(error_of(NoLeast, worst, *OVER, ("a",), "over", thing), {})
        worst(*FULL, ("a",), "over", 60)


class CertificateTest(unittest.TestCase):

    def test_against_the_words(self):
        found = 0
        for program, sampler in MIXED + [FULL]:
            web = web_of(program, sampler)
            for focus in focuses(program):
                for side in SIDES:
                    told = certificate(program, sampler, focus, side)
                    if told is None:
                        self.assertEqual(excess(program, sampler, focus, side), ("endless",))
                        continue
                    self.assertIs(type(told), dict)
                    self.assertEqual(repr(sorted(told)), repr(list(web)))
                    self.assertTrue(all(type(value) is int for value in told.values()))
                    if len(web) < 60:
                        self.assertEqual(told, sums_by_words(web, focus, sampler.period, side))
                    most = excess(program, sampler, focus, side)[1]
                    starts = [gain_by_words(state, noted, focus, sampler.period, side) + told[state]
                              for state, noted in first_states(program, sampler)]
                    self.assertEqual(max(starts), most)
                    self.assertIsNone(certificate_fault(program, sampler, focus, side, told, most))
                    self.assertEqual(faults_by_words(program, sampler, focus, side, told, most), [])
                    fault = certificate_fault(program, sampler, focus, side, told, most - 1)
                    self.assertEqual(fault[0], "begin")
                    found += 1
        self.assertGreater(found, 300)

    def test_a_dict_that_was_told_may_be_changed(self):
        before = certificate(TWO, EVEN, ALL, "over")
        certificate(TWO, EVEN, ALL, "over").clear()
        self.assertEqual(certificate(TWO, EVEN, ALL, "over"), before)

    def test_the_order_of_the_errors(self):
        ExcessTest.check_order(self, certificate)


class CertificateFaultTest(unittest.TestCase):

    RIGHT = {("a", 1, 0, True, False): 0, ("a", 1, 1, True, False): 1, ("b", 1, 0, True, False): 0,
             ("b", 1, 1, True, False): 1, ("b", 2, 0, True, False): 0, ("b", 2, 1, True, False): 1}
    STATES = sorted(RIGHT)

    def fault(self, given, most=1, side="over", focus=ALL):
        before = repr(given)
        told = certificate_fault(TWO, EVEN, focus, side, given, most)
        if isinstance(given, dict):
            self.assertEqual(repr(given), before)
            right = faults_by_words(TWO, EVEN, focus, side, given, most)
            self.assertEqual(repr(told), repr(right[0] if right else None))
        return told

    def test_without_fault(self):
        self.assertEqual(certificate(TWO, EVEN, ALL, "over"), self.RIGHT)
        for most in (1, 2, 10 ** 99):
            self.assertIsNone(self.fault(self.RIGHT, most))
        self.assertIsNone(self.fault({state: self.RIGHT[state] for state in self.STATES[::-1]}))
        self.assertIsNone(self.fault({state: value + 5 for state, value in self.RIGHT.items()}, 6))
        self.assertIsNone(self.fault({state: value + 10 ** 98 for state, value in self.RIGHT.items()}, 10 ** 99))

    def test_what_lacks(self):
        for thing in others(dict) + [list(self.RIGHT), list(self.RIGHT.items()), set(self.RIGHT)]:
            self.assertEqual(self.fault(thing), ("lacks", self.STATES[0]))
        self.assertEqual(self.fault({}), ("lacks", self.STATES[0]))
        for state in self.STATES:
            given = dict(self.RIGHT)
            del given[state]
            self.assertEqual(self.fault(given, -9), ("lacks", state))
            for thing in others(int) + [True, False, Share(1), Share(0), "1", 1.0]:
                self.assertEqual(self.fault({**self.RIGHT, state: thing}, -9), ("lacks", state))
        given = {**self.RIGHT, self.STATES[0]: -1, self.STATES[5]: None, self.STATES[3]: True}
        self.assertEqual(self.fault(given, -9), ("lacks", self.STATES[3]))

    def test_a_value_below_0(self):
        for state in self.STATES:
            self.assertEqual(self.fault({**self.RIGHT, state: -1}, -9), ("stop", state))
            self.assertEqual(self.fault({**self.RIGHT, state: -10 ** 99}, -9), ("stop", state))
        given = {**self.RIGHT, self.STATES[4]: -1, self.STATES[2]: -2}
        self.assertEqual(self.fault(given), ("stop", self.STATES[2]))

    def test_a_start(self):
        self.assertEqual(self.fault(self.RIGHT, 0), ("begin", self.STATES[0]))
        self.assertEqual(self.fault({state: 0 for state in self.STATES}, 0), ("begin", self.STATES[0]))
        free = Sampler(2, phase=None)
        zeros = {state: 0 for state in self.STATES}
        # The start state at the place 1 of its slot makes no note, so its gain is -1.
        self.assertEqual(certificate_fault(TWO, free, ALL, "over", {**zeros, self.STATES[1]: 3}, 1),
                         ("begin", self.STATES[1]))
        self.assertEqual(certificate_fault(TWO, free, ALL, "over", {**zeros, self.STATES[1]: 3}, 0),
                         ("begin", self.STATES[0]))
        self.assertEqual(certificate_fault(TWO, free, ALL, "over", {**zeros, self.STATES[1]: 2}, 1)[0], "step")

    def test_a_step(self):
        self.assertEqual(self.fault({state: 0 for state in self.STATES}, 1),
                         ("step", self.STATES[1], self.STATES[2]))
        seen = set()
        for state in self.STATES:
            for change in (0, 1, 2, 3, 10 ** 99):
                told = self.fault({**self.RIGHT, state: change}, 10 ** 99 + 5)
                seen.add(told if told is None else told[0])
        self.assertEqual(seen, {None, "step"})

    def test_all_small_values_against_the_words(self):
        for number in range(3 ** 6):
            given = {state: number // 3 ** at % 3 - 1 for at, state in enumerate(self.STATES)}
            for most in (0, 1):
                for side in SIDES:
                    self.fault(given, most, side)
        for focus in (("a",), ("b",), ("b", "a")):
            for number in range(2 ** 6):
                self.fault({state: number // 2 ** at % 2 for at, state in enumerate(self.STATES)}, 1, "under", focus)

    def test_an_endless_excess_has_no_certificate_without_fault(self):
        for value in (0, 7, 10 ** 99):
            self.assertEqual(self.fault({state: value for state in self.STATES}, 10 ** 99 + 9, "over", ("a",))[0],
                             "step")

    def test_keys_that_are_no_reached_state(self):
        extra = {None: None, "a": -1, ("c", 1, 0, True, False): "x", 7: [], ("a", 1, 0, True): -5,
                 ("a", 1, 0, False, False): -10 ** 50}
        self.assertIsNone(self.fault({**extra, **self.RIGHT}))
        self.assertEqual(self.fault(extra), ("lacks", self.STATES[0]))

    def test_a_key_that_is_equal_to_a_state_counts_as_it(self):
        given = {(key[0], float(key[1]), bool(key[2]), 1, 0): value for key, value in self.RIGHT.items()}
        self.assertIsNone(self.fault(given))
        self.assertEqual(repr(self.fault(given, 0)), repr(("begin", self.STATES[0])))
        self.assertEqual(repr(self.fault({**given, self.STATES[1]: 0})),
                         repr(("step", self.STATES[1], self.STATES[2])))

    def test_all_kinds_of_faults_of_other_programs(self):
        for program, sampler in MIXED[::5]:
            web = web_of(program, sampler)
            for focus in focuses(program)[:2]:
                for side in SIDES:
                    right = certificate(program, sampler, focus, side) or {state: 3 for state in web}
                    for state in web:
                        for value in (None, -1, 0, 1, 9):
                            given = {**right, state: value}
                            told = certificate_fault(program, sampler, focus, side, given, 2)
                            faults = faults_by_words(program, sampler, focus, side, given, 2)
                            self.assertEqual(repr(told), repr(faults[0] if faults else None))

    def test_the_order_of_the_errors(self):
        ExcessTest.check_order(self, certificate_fault, None, 0)
        ExcessTest.check_order(self, certificate_fault, {}, 10 ** 99)
        self.assertEqual(error_of(NoSide, certificate_fault, *OVER, ("a",), "x", None, None), {})
        for thing in others(int) + [True, False, Share(2)]:
            self.assertEqual(error_of(NoBound, certificate_fault, *OVER, ("a",), "over", None, thing), {})
        self.assertEqual(certificate_fault(*FULL, ("a",), "over", None, 0), ("lacks", ("a", 1, 0, False, False)))


if __name__ == "__main__":
    unittest.main()
