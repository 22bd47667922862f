"""Points 12.1 to 12.6, and 0.5 and 0.6 as far as they speak of settings."""

import inspect
import unittest
from itertools import combinations

from seenshares.bounds import hidden, over, under
from seenshares.errors import NoBound, NoFocus, NoSets, NoWhat, TooMany
from seenshares.programs import Place, Program
from seenshares.samplers import Sampler
from seenshares.settings import jitters_within, lets, measure, periods_within
from seenshares.shares import Share
from seenshares.states import reach
from tests.cases import CASES, FULL, LARGE, OVER, error_of, program_of, show, woven
from tests.objects import others
from tests.webs import NO_KNOT, TWO_KNOTS, focuses

CALLS = {"hidden": hidden, "over": over, "under": under}
TWO = program_of("a 1 1 open b, b 1 2 open a")
SHUT = program_of("a 1 1 open b, b 1 1 closed a")
# The focus can be hidden behind each of three closed places, of which two must be let for a small value.
MAZE = program_of("s 1 1 open s b c d, d 1 2 closed s b, c 1 2 closed s b d, b 1 2 closed s")
WITHIN = [jitters_within, periods_within, lets]
BOUNDS = [0, Share(1, 3), Share(1, 2), Share(1), Share(-1, 4), -1, Share(2, 3), 1]
# Its own web has 235 states. That of the same program in which one place is let has more than 300.
WIDER = woven("closed", 2, 4, 4, 4), Sampler(7, 6)
# Its web has 147 states with this sampler, more than 300 with the jitter 6, and more than 300 with no other period.
WIDE = program_of("a 1 3 open a b c, b 1 6 closed b c a, c 2 5 open a b d, d 1 4 closed a c")


def fits(program, sampler, focus, what, bound):
    """Whether the value is within the bound."""
    value = CALLS[what](program, sampler, focus)
    return value is None or value <= bound


def lets_by_words(program, sampler, focus, what, bound):
    """The sets of point 12.4."""
    lit = tuple(name for name in program.names if program[name].let)
    closed = sorted(set(program.names) - set(lit))
    for many in range(len(closed) + 1):
        found = [names for names in combinations(closed, many)
                 if fits(program.with_let(lit + names), sampler, focus, what, bound)]
        if found:
            return found
    return []


class MeasureTest(unittest.TestCase):

    def test_the_parameters(self):
        self.assertEqual(str(inspect.signature(measure)), "(program, sampler, focus, what)")
        for call in WITHIN:
            self.assertEqual(str(inspect.signature(call)), "(program, sampler, focus, what, bound)")

    def test_the_three_words(self):
        for program, sampler in CASES[::7] + [(NO_KNOT, Sampler(2)), FULL]:
            for focus in focuses(program)[:3]:
                for what, call in CALLS.items():
                    told, right = measure(program, sampler, focus, what), call(program, sampler, focus)
                    self.assertIs(type(told), type(right))
                    self.assertEqual(str(told), str(right), (show(program, sampler), focus, what))

    def test_some_values(self):
        self.assertEqual([str(measure(SHUT, Sampler(2), ("b",), what)) for what in CALLS], ["1/2", "-1/2", "1/2"])
        self.assertEqual([str(measure(NO_KNOT, Sampler(2), ("b",), what)) for what in CALLS], ["None"] * 3)


class JittersTest(unittest.TestCase):

    def test_each_against_a_sampler_of_its_own(self):
        sizes = set()
        for program, sampler in CASES[::3]:
            for at, bound in enumerate(BOUNDS):
                focus, what = focuses(program)[at % 3], list(CALLS)[at // 2 % 3]
                right = []
                for jitter in range(sampler.period):
                    if fits(program, Sampler(sampler.period, jitter, phase=sampler.phase), focus, what, bound):
                        right.append(jitter)
                told = jitters_within(program, sampler, focus, what, bound)
                self.assertEqual(told, right, (show(program, sampler), focus, what, at))
                self.assertTrue(all(type(one) is int for one in told))
                sizes.add(len(told) - sampler.period)
        self.assertTrue({0, -1, -2} <= sizes)

    def test_all_jitters_up_to_the_period_and_the_given_one_does_not_matter(self):
        for jitter in (0, 3, 7):
            self.assertEqual(jitters_within(TWO, Sampler(8, jitter, phase=2), ("a",), "over", 9), list(range(8)))
        self.assertEqual(jitters_within(TWO, Sampler(1), ("a",), "under", 0), [0])
        self.assertEqual(jitters_within(TWO, Sampler(1), ("a",), "under", Share(-1, 10 ** 99)), [])


class PeriodsTest(unittest.TestCase):

    def test_each_against_a_sampler_of_its_own(self):
        sizes = set()
        for program, sampler in CASES[::3]:
            for at, bound in enumerate(BOUNDS[::2]):
                focus, what = focuses(program)[at % 3], list(CALLS)[(at + 1) % 3]
                right = []
                for period in range(1, 9):
                    if sampler.jitter < period and (sampler.phase is None or sampler.phase < period):
                        if fits(program, Sampler(period, sampler.jitter, phase=sampler.phase), focus, what, bound):
                            right.append(period)
                told = periods_within(program, sampler, focus, what, bound)
                self.assertEqual(told, right, (show(program, sampler), focus, what, at))
                self.assertTrue(all(type(one) is int for one in told))
                sizes.add(len(told))
        self.assertGreater(len(sizes), 4)

    def test_periods_that_are_left_out(self):
        for sampler, first in [(Sampler(1), 1), (Sampler(8), 1), (Sampler(8, 3), 4), (Sampler(8, phase=5), 6),
                               (Sampler(8, 3, phase=5), 6), (Sampler(8, 5, phase=3), 6), (Sampler(8, 7), 8),
                               (Sampler(8, phase=7), 8), (Sampler(8, phase=None), 1), (Sampler(8, 2, phase=None), 3),
                               (Sampler(3, 2, phase=1), 3)]:
            for bound in (8, Share(8)):
                self.assertEqual(periods_within(TWO, sampler, ("a",), "over", bound), list(range(first, 9)))

    def test_the_example(self):
        self.assertEqual(periods_within(TWO, Sampler(2), ("a",), "hidden", Share(1, 3)), [1, 3])


class BoundsTest(unittest.TestCase):

    def test_none_is_within_every_bound(self):
        for bound in (0, -10 ** 99, Share(-1, 3), Share(-10 ** 99)):
            self.assertEqual(jitters_within(TWO, Sampler(3), ("a", "b"), "hidden", bound), [0, 1, 2])
            self.assertEqual(periods_within(TWO, Sampler(3), ("a", "b"), "hidden", bound), list(range(1, 9)))
            self.assertEqual(lets(SHUT, Sampler(2), ("a",), "hidden", bound), [()])
            for what in CALLS:
                self.assertEqual(jitters_within(NO_KNOT, Sampler(2), ("b",), what, bound), [0, 1])
                self.assertEqual(lets(NO_KNOT, Sampler(2), ("b",), what, bound), [()])

    def test_a_bound_that_is_the_value_itself(self):
        half = Share(1, 2)
        self.assertEqual(jitters_within(TWO, Sampler(2), ("a",), "hidden", half), [0, 1])
        self.assertEqual(jitters_within(TWO, Sampler(2), ("a",), "hidden", half - Share(1, 10 ** 99)), [])
        for bound in (0, Share(0)):
            self.assertEqual(jitters_within(TWO, Sampler(2), ("a", "b"), "over", bound), [0, 1])
            self.assertEqual(lets(TWO_KNOTS, Sampler(2), ("a",), "hidden", bound), [()])
            self.assertEqual(periods_within(TWO, Sampler(8), ("a", "b"), "under", bound), list(range(1, 9)))
        for bound in (-1, Share(-1)):
            self.assertEqual(jitters_within(TWO, Sampler(2), ("a", "b"), "over", bound), [])
        loop = program_of("a 1 1 closed a")
        for bound in (1, Share(1)):
            self.assertEqual(lets(loop, Sampler(1), ("a",), "hidden", bound), [()])
        self.assertEqual(lets(loop, Sampler(1), ("a",), "hidden", Share(99, 100)), [("a",)])
        self.assertEqual(lets(loop, Sampler(1), ("a",), "over", -1), [()])
        self.assertEqual(lets(loop, Sampler(1), ("a",), "over", -2), [])


class LetsTest(unittest.TestCase):

    def test_against_all_sets(self):
        sizes = set()
        mazes = [(MAZE, sampler) for sampler in (Sampler(1), Sampler(2), Sampler(3, 1), Sampler(4, 2, phase=None))]
        for program, sampler in CASES[::5] + mazes:
            for at, bound in enumerate(BOUNDS):
                for what in CALLS:
                    focus = focuses(program)[at % 3]
                    right = lets_by_words(program, sampler, focus, what, bound)
                    told = lets(program, sampler, focus, what, bound)
                    self.assertEqual(told, right, (show(program, sampler), focus, what, at))
                    self.assertIs(type(told), list)
                    sizes.add((len(told), len(told[0]) if told else None))
        self.assertTrue({(0, None), (1, 0), (1, 1)} <= sizes)

    def test_several_sets_and_several_names(self):
        fork = program_of("s 1 1 open z y, z 1 1 closed s, y 1 1 closed s")
        rows = [(("y", "z"), "hidden", Share(1, 4), [("y", "z")]), (("z",), "hidden", 0, [("z",)]),
                (("z",), "hidden", Share(1, 2), [()])]
        for focus, what, bound, right in rows:
            self.assertEqual(lets(fork, Sampler(1), focus, what, bound), right)
            self.assertEqual(lets_by_words(fork, Sampler(1), focus, what, bound), right)
        chain = program_of("s 1 1 open z, z 1 1 closed y, y 1 1 closed s")
        self.assertEqual(lets(chain, Sampler(1), ("s", "y", "z"), "under", Share(1, 3)), [("y",), ("z",)])
        self.assertEqual(lets(chain, Sampler(1), ("s", "y", "z"), "under", Share(1, 4)), [("y", "z")])
        self.assertEqual(lets(chain, Sampler(1), ("s", "y", "z"), "under", Share(-1, 4)), [])

    def test_names_and_sets_are_in_ascending_order(self):
        ring = program_of("d 1 1 closed b, b 1 1 closed c, c 1 1 closed a, a 1 1 closed d", start="c")
        names = ring.names
        self.assertEqual(lets(ring, Sampler(1), names, "under", Share(3, 4)), [("a",), ("b",), ("c",), ("d",)])
        self.assertEqual(lets(ring, Sampler(1), names, "under", Share(1, 2)), list(combinations("abcd", 2)))
        self.assertEqual(lets(ring, Sampler(1), names, "under", Share(1, 4)), list(combinations("abcd", 3)))
        self.assertEqual(lets(ring, Sampler(1), names, "under", 0), [("a", "b", "c", "d")])
        self.assertEqual(lets(ring, Sampler(1), names, "under", 1), [()])

    def test_a_program_without_closed_places(self):
        self.assertEqual(lets(TWO, Sampler(2), ("a",), "hidden", 1), [()])
        self.assertEqual(lets(TWO, Sampler(2), ("a",), "hidden", 0), [])

    def test_more_than_four_closed_places(self):
        names = "abcdef"
        for closed in range(7):
            places = [Place(name, let=at >= closed) for at, name in enumerate(names)]
            program = Program(places, {name: (names[(at + 1) % 6],) for at, name in enumerate(names)})
            if closed > 4:
                self.assertEqual(error_of(NoSets, lets, program, Sampler(1), ("a",), "hidden", 1), {})
            else:
                self.assertEqual(lets(program, Sampler(1), ("a",), "hidden", 1), [()])


class ErrorsTest(unittest.TestCase):

    def test_what_is_no_focus(self):
        for call in [measure] + WITHIN:
            rest = [None] if call is measure else [None, None]
            for thing in others(tuple) + [()]:
                self.assertEqual(error_of(NoFocus, call, *OVER, thing, *rest), {"index": -1})
            for thing in others(str) + ["z"]:
                self.assertEqual(error_of(NoFocus, call, *OVER, ("a", thing), *rest), {"index": 1})

    def test_what_is_no_word(self):
        for call in [measure] + WITHIN:
            rest = [] if call is measure else [None]
            for thing in others() + ["Hidden", "hidden ", "overunder", ("hidden",), ["over"]]:
                self.assertIs(error_of(NoWhat, call, *OVER, ("a",), thing, *rest)["what"], thing)

    def test_what_is_no_bound(self):
        for call in WITHIN:
            for thing in others(int, Share) + [True, False]:
                for what in CALLS:
                    self.assertEqual(error_of(NoBound, call, *OVER, ("a",), what, thing), {})

    def test_no_sets_comes_ahead_of_too_many(self):
        self.assertEqual(error_of(NoSets, lets, *OVER, ("a",), "over", 0), {})
        self.assertEqual(error_of(NoSets, lets, *FULL, ("a",), "over", 0), {})
        self.assertEqual(error_of(NoBound, lets, *OVER, ("a",), "over", None), {})

    def test_too_many_states_of_the_given_setting(self):
        for program, sampler in LARGE:
            for call in (measure, jitters_within, periods_within):
                rest = [] if call is measure else [1]
                self.assertEqual(error_of(TooMany, call, program, sampler, ("a",), "over", *rest), {"limit": 300})
        self.assertEqual(error_of(TooMany, lets, *LARGE[1], ("a",), "over", 1), {"limit": 300})
        self.assertIsNotNone(measure(*FULL, ("a",), "over"))

    def test_too_many_states_of_another_jitter(self):
        self.assertEqual(reach(WIDE, Sampler(7)), 147)
        for jitter in (0, 5):
            self.assertIsNotNone(measure(WIDE, Sampler(7, jitter), ("a",), "over"))
            self.assertEqual(error_of(TooMany, jitters_within, WIDE, Sampler(7, jitter), ("a",), "over", 9),
                             {"limit": 300})
        self.assertEqual(jitters_within(WIDE, Sampler(6), ("a",), "over", 9), [0, 1, 2, 3, 4, 5])

    def test_too_many_states_of_another_period(self):
        self.assertEqual(error_of(TooMany, periods_within, WIDE, Sampler(6, 5), ("a",), "over", 9), {"limit": 300})
        self.assertEqual(error_of(TooMany, periods_within, WIDE, Sampler(7, 5), ("a",), "over", -9), {"limit": 300})
        self.assertEqual(periods_within(WIDE, Sampler(6, 4), ("a",), "over", 9), [5, 6, 7, 8])

    def test_too_many_states_of_a_set_with_more_names(self):
        program, sampler = WIDER
        self.assertEqual(reach(program, sampler), 235)
        self.assertIsNotNone(measure(program, sampler, ("a",), "hidden"))
        for bound in (1, 0, -1):
            self.assertEqual(error_of(TooMany, lets, program, sampler, ("a",), "hidden", bound), {"limit": 300})

    def test_lists_that_were_told_may_be_changed(self):
        for call in WITHIN:
            before = list(call(SHUT, Sampler(2), ("a",), "over", 1))
            call(SHUT, Sampler(2), ("a",), "over", 1).clear()
            self.assertEqual(call(SHUT, Sampler(2), ("a",), "over", 1), before)
            self.assertTrue(before)


if __name__ == "__main__":
    unittest.main()
