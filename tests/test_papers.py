"""Points 8.3 and 8.4, and 0.5 and 0.6 as far as they speak of papers."""

import copy
import inspect
import unittest
from fractions import Fraction

from seenshares.errors import NoFocus, NoKnot, NoShare, NoSide, TooMany
from seenshares.papers import paper, paper_fault
from seenshares.polygons import polygon, sides
from seenshares.samplers import Sampler
from seenshares.shares import Share
from tests.cases import FULL, OVER, error_of, program_of, show, woven
from tests.objects import others
from tests.webs import (NO_KNOT, TWO_KNOTS, focuses, fractions_of, knots_by_words, pair_by_words, ringed_cases, web_of)

TWO = program_of("a 1 1 open b, b 1 2 open a")
EVEN = Sampler(2)
PRICES = {("a", 1, 0, True, False): 3, ("b", 1, 1, True, False): 2, ("b", 2, 0, True, False): 1,
          ("a", 1, 1, True, False): 2, ("b", 1, 0, True, False): 1, ("b", 2, 1, True, False): 0}
STATES = sorted(PRICES)
DIRECTIONS = [(1, 0), (0, 1), (-1, 0), (0, -1), (1, 1), (-2, 3), (7, -4), (-5, -6), (12, 12),
              (10 ** 29 + 1, 3 - 10 ** 29)]


def fraction(number):
    """A share or an integer as a fraction of Python's own."""
    return Fraction(number.top, number.bottom) if isinstance(number, Share) else Fraction(number)


def faults_by_words(program, sampler, focus, held, a, b, level, prices):
    """All faults of point 8.4, in their order, for prices that are a dict."""
    web = web_of(program, sampler)
    rows = {state: [fraction(value) for key, value in prices.items() if key == state and
                    isinstance(value, (int, Share)) and not isinstance(value, bool)] for state in held}
    lacks = [("lacks", state) for state in held if not rows[state]]
    if lacks:
        return lacks
    found = []
    for state in held:
        for after in held:
            if after in web[state]:
                f = 1 if after[0] in focus else 0
                m = 1 if after[0] in focus and web[state][after] else 0
                left = a * f + b * sampler.period * m - fraction(level) + rows[after][0]
                if not left <= rows[state][0]:
                    found.append(("step", state, after))
    return found


class PaperTest(unittest.TestCase):

    def test_the_parameters(self):
        self.assertEqual(str(inspect.signature(paper)), "(program, sampler, focus, knot, a, b)")
        self.assertEqual(str(inspect.signature(paper_fault)), "(program, sampler, focus, knot, a, b, level, prices)")

    def test_level_and_prices_for_sides_and_other_directions(self):
        for program, sampler, web, rings in ringed_cases():
            focus = (program.names[0],)
            for at, held in enumerate(knots_by_words(web)):
                pairs = [pair_by_words(one, web, focus, sampler.period) for one in rings if one[0] in held]
                ways = [(a, b) for a, b, _ in sides(polygon(program, sampler, focus, at))]
                for a, b in ways + DIRECTIONS:
                    right = max(a * true + b * seen for true, seen in pairs)
                    self.check(program, sampler, focus, at, held, a, b, right)

    def check(self, program, sampler, focus, at, held, a, b, right):
        told = paper(program, sampler, focus, at, a, b)
        self.assertEqual([type(told), type(told[0]), type(told[1]), len(told)], [tuple, Share, dict, 2])
        self.assertEqual(fraction(told[0]), right, (show(program, sampler), focus, at, a, b))
        self.assertEqual(repr(sorted(told[1])), repr(held))
        self.assertTrue(all(type(price) is Share for price in told[1].values()))
        self.assertEqual(faults_by_words(program, sampler, focus, held, a, b, *told), [])
        self.assertIsNone(paper_fault(program, sampler, focus, at, a, b, *told))

    def test_large_webs(self):
        for program, sampler in [FULL, (woven("open", 5, 5, 5, 5), Sampler(8, 7))]:
            for focus in focuses(program)[:2]:
                told = fractions_of(polygon(program, sampler, focus, 0))
                held = knots_by_words(web_of(program, sampler))[0]
                for a, b in DIRECTIONS[::3]:
                    right = max(a * true + b * seen for true, seen in told)
                    self.check(program, sampler, focus, 0, held, a, b, right)

    def test_a_level_below_has_no_paper(self):
        for a, b in DIRECTIONS:
            level, prices = paper(TWO, EVEN, ("a",), 0, a, b)
            self.assertEqual(paper_fault(TWO, EVEN, ("a",), 0, a, b, level - Share(1, 10 ** 50), prices)[0], "step")
            self.assertIsNone(paper_fault(TWO, EVEN, ("a",), 0, a, b, level + Share(1, 10 ** 50), prices))

    def test_a_dict_that_was_told_may_be_changed(self):
        paper(TWO, EVEN, ("a",), 0, 1, 0)[1].clear()
        self.assertEqual(sorted(paper(TWO, EVEN, ("a",), 0, 1, 0)[1]), STATES)

    def test_a_knot_among_several(self):
        for at, right in ((0, 1), (1, 0)):
            level, prices = paper(TWO_KNOTS, EVEN, ("b",), at, 0, 1)
            self.assertTrue(level == right)
            self.assertEqual({state[0] for state in prices}, {"bc"[at]})

    def test_what_is_no_direction(self):
        for thing in others(int) + [True, False]:
            for a, b in ((thing, 1), (1, thing), (thing, thing), (thing, 0), (0, thing)):
                self.assertEqual(error_of(NoSide, paper, TWO, EVEN, ("a",), 0, a, b), {})
                self.assertEqual(error_of(NoSide, paper_fault, TWO, EVEN, ("a",), 0, a, b, 0, {}), {})
        self.assertEqual(error_of(NoSide, paper, TWO, EVEN, ("a",), 0, 0, 0), {})
        self.assertEqual(error_of(NoSide, paper_fault, TWO, EVEN, ("a",), 0, 0, 0, 0, {}), {})

    def test_the_order_of_the_errors(self):
        self.assertEqual(error_of(NoFocus, paper, *OVER, ("z",), None, 0, 0), {"index": 0})
        self.assertEqual(error_of(NoSide, paper, *OVER, ("a",), None, 0, 0), {})
        self.assertEqual(error_of(TooMany, paper, *OVER, ("a",), None, 1, 0), {"limit": 300})
        self.assertEqual(error_of(NoKnot, paper, NO_KNOT, EVEN, ("a",), None, 1, 0), {"index": None})


class PaperFaultTest(unittest.TestCase):

    def fault(self, level, prices, a=-2, b=-1, focus=("a",)):
        told = paper_fault(TWO, EVEN, focus, 0, a, b, level, prices)
        if isinstance(prices, dict):
            right = faults_by_words(TWO, EVEN, focus, STATES, a, b, level, prices)
            self.assertEqual(repr(told), repr(right[0] if right else None))
        return told

    def test_a_paper_without_fault(self):
        for level in (-1, Share(-1), 0, Share(-1, 2), 10 ** 99):
            self.assertIsNone(self.fault(level, PRICES))
        self.assertIsNone(self.fault(-1, {key: Share(3 * price + 1, 3) for key, price in PRICES.items()}))
        self.assertIsNone(self.fault(-1, {key: price - 10 ** 99 for key, price in PRICES.items()}))
        self.assertIsNone(self.fault(-1, {key: PRICES[key] for key in STATES[::-1]}))

    def test_the_first_step_that_breaks_the_inequality(self):
        self.assertEqual(self.fault(-2, PRICES), ("step", STATES[0], ("b", 1, 1, True, False)))
        self.assertEqual(self.fault(Share(-1001, 1000), PRICES)[0], "step")
        seen = set()
        for state in STATES:
            for change in (-1, Share(-1, 10 ** 90), 1, Share(1, 10 ** 90)):
                told = self.fault(-1, {**PRICES, state: PRICES[state] + change})
                self.assertEqual(told[0] if told else "step", "step")
                seen.add(told)
        self.assertGreater(len(seen), 3)

    def test_all_directions_against_the_words(self):
        for a, b in DIRECTIONS:
            for level in (0, -3, 5, Share(1, 3)):
                self.fault(level, PRICES, a, b)
                self.fault(level, PRICES, a, b, ("b",))
                self.fault(level, PRICES, a, b, ("b", "a"))

    def test_states_that_lack(self):
        self.assertEqual(self.fault(-1, {}), ("lacks", STATES[0]))
        for state in STATES:
            prices = dict(PRICES)
            del prices[state]
            self.assertEqual(self.fault(-1, prices), ("lacks", state))
            self.assertEqual(self.fault(-9, prices), ("lacks", state))
            for thing in others(int, Share) + [True, False, "1", (1,)]:
                self.assertEqual(self.fault(-9, {**PRICES, state: thing}), ("lacks", state))
        prices = dict(PRICES)
        del prices[STATES[4]]
        prices[STATES[2]] = True
        self.assertEqual(self.fault(-9, prices), ("lacks", STATES[2]))

    def test_prices_that_are_no_dict(self):
        for thing in others(dict) + [list(PRICES), list(PRICES.items()), set(PRICES), tuple(PRICES)]:
            self.assertEqual(self.fault(-1, thing), ("lacks", STATES[0]))

    def test_keys_that_are_no_states_are_ignored(self):
        extra = {None: None, "a": 1, ("c", 1, 0, True, False): "x", 7: [], ("a", 1, 0, True): 0,
                 ("a", 1, 0, False, False): -10 ** 50}
        self.assertIsNone(self.fault(-1, {**extra, **PRICES}))
        self.assertEqual(self.fault(-1, extra), ("lacks", STATES[0]))

    def test_a_key_that_is_equal_to_a_state_counts_as_it(self):
        prices = {(key[0], float(key[1]), bool(key[2]), 1, 0): price for key, price in PRICES.items()}
        self.assertIsNone(self.fault(-1, prices))
        self.assertEqual(repr(self.fault(-2, prices)), repr(("step", STATES[0], ("b", 1, 1, True, False))))

    def test_only_the_knot_counts(self):
        self.assertIsNone(paper_fault(TWO_KNOTS, Sampler(1), ("b",), 0, 0, 1, 1, {("b", 1, 0, True, False): 7}))
        told = paper_fault(TWO_KNOTS, Sampler(1), ("b",), 0, 0, 1, Share(99, 100), {("b", 1, 0, True, False): 7})
        self.assertEqual(told, ("step", ("b", 1, 0, True, False), ("b", 1, 0, True, False)))
        self.assertEqual(paper_fault(TWO_KNOTS, Sampler(1), ("b",), 1, 0, 1, 0, {("b", 1, 0, True, False): 7}),
                         ("lacks", ("c", 1, 0, True, True)))

    def test_what_is_passed_stays(self):
        prices = {key: Share(price) for key, price in PRICES.items()}
        before = copy.deepcopy({key: str(price) for key, price in prices.items()})
        self.fault(-1, prices)
        self.fault(-2, prices)
        self.assertEqual({key: str(price) for key, price in prices.items()}, before)

    def test_a_level_that_is_no_number(self):
        for thing in others(int, Share) + [True, False]:
            self.assertEqual(error_of(NoShare, paper_fault, TWO, EVEN, ("a",), 0, 1, 0, thing, PRICES), {})

    def test_the_order_of_the_errors(self):
        self.assertEqual(error_of(NoFocus, paper_fault, *OVER, ["a"], None, 0, 0, None, None), {"index": -1})
        self.assertEqual(error_of(NoSide, paper_fault, *OVER, ("a",), None, 0, 0, None, None), {})
        self.assertEqual(error_of(NoShare, paper_fault, *OVER, ("a",), None, 0, 1, None, None), {})
        self.assertEqual(error_of(TooMany, paper_fault, *OVER, ("a",), None, 0, 1, 0, None), {"limit": 300})
        self.assertEqual(error_of(NoKnot, paper_fault, TWO, EVEN, ("a",), 1, 0, 1, 0, None), {"index": 1})


if __name__ == "__main__":
    unittest.main()
