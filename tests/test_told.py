"""Points 11.1 to 11.5, and 0.5 and 0.6 as far as they speak of rows of notes."""

import inspect
import unittest
from itertools import product

from seenshares.errors import NoFocus, NoLeast, NoRow, TooMany
from seenshares.runs import observe, times_of
from seenshares.samplers import Sampler
from seenshares.states import first_states
from seenshares.told import can_be, sure_places, true_times, witness
from tests.cases import CASES, FULL, LARGE, OVER, error_of, program_of, short_runs, show
from tests.objects import others
from tests.webs import NO_KNOT, THREE_KNOTS, TWO_KNOTS, focuses, web_of

TWO = program_of("a 1 1 open b, b 1 2 open a")
EVEN = Sampler(2)
MIXED = CASES + [(program, sampler) for program in (NO_KNOT, TWO_KNOTS, THREE_KNOTS) for _, sampler in CASES[:6]]
SHORT, LONG = 7, 70
# Nineteen ticks from one a to the next one, behind a start of nine or of ten ticks.
ROUND = "a 1 1 open b, b 6 6 closed c, c 6 6 closed d, d 6 6 closed a, e 6 6 closed f, f {0} {0} closed a"
NINE, TEN = [program_of(ROUND.format(many), start="e") for many in (3, 4)]
# A web of 287 states, with places that are closed.
WIDE = program_of("a 1 3 open a b c, b 1 6 closed b c a, c 2 5 open a b d, d 1 4 closed a c"), Sampler(7, 5)


def rows_by_words(program, sampler):
    """For each row that a short run notes the list of pairs (ticks, times) of these runs."""
    found = {}
    for _, told in short_runs(program, sampler, SHORT):
        found.setdefault(tuple(name for _, name in told[2]), []).append((told[0], told[1]))
    return found


def some_rows(program, found):
    """Rows that short runs note, and others."""
    rows = [row for row in sorted(found) if len(row) < 4][:8]
    for row in product(program.names, repeat=2):
        if row not in rows:
            rows.append(row)
    return rows[:12]


def ends_by_words(web, starts, focus, row, most):
    """For each number of ticks up to most the times in the focus of the runs that note the row, as bits."""
    layer = {}
    for state, noted in starts:
        put(layer, (state, 0), noted, 1, focus, row)
    ends = [0]
    for _ in range(most):
        ends.append(0)
        later = {}
        for (state, count), bits in layer.items():
            if count == len(row):
                ends[-1] |= bits
            for after, noted in web[state].items():
                put(later, (after, count), noted, bits, focus, row)
        layer = later
    return ends


def put(layer, spot, noted, bits, focus, row):
    """Add times, as bits, to a state and the number of names that were noted ahead of it."""
    state, count = spot
    if noted:
        if row[count:count + 1] != (state[0],):
            return
        count += 1
    layer[state, count] = layer.get((state, count), 0) | bits << (state[0] in focus)


def bounds_of(bits):
    """The least and the greatest of the numbers whose bits are set, or None."""
    if bits == 0:
        return None
    return (bits & -bits).bit_length() - 1, bits.bit_length() - 1


def joined(ends):
    """All bits that are set in some of the numbers."""
    bits = 0
    for one in ends:
        bits |= one
    return bits


class ByWordsTest(unittest.TestCase):

    def test_the_parameters(self):
        self.assertEqual(str(inspect.signature(can_be)), "(program, sampler, row)")
        self.assertEqual(str(inspect.signature(true_times)), "(program, sampler, focus, row, *, ticks=None)")
        self.assertEqual(str(inspect.signature(sure_places)), "(program, sampler, row)")
        self.assertEqual(str(inspect.signature(witness)), "(program, sampler, focus, row, time)")

    def test_all_short_runs(self):
        for program, sampler in MIXED:
            found = rows_by_words(program, sampler)
            web, starts = web_of(program, sampler), first_states(program, sampler)
            for row in some_rows(program, found):
                runs = found.get(row, [])
                note = (show(program, sampler), row)
                if runs:
                    self.assertIs(can_be(program, sampler, list(row)), True, note)
                    visited = [name for name in program.names if all(times[name] for _, times in runs)]
                    self.assertTrue(set(sure_places(program, sampler, list(row))) <= set(visited), note)
                for focus in focuses(program)[:2]:
                    ends = ends_by_words(web, starts, focus, row, SHORT)
                    for ticks in range(SHORT + 1):
                        mine = [sum(times[name] for name in focus) for many, times in runs if many == ticks]
                        self.assertEqual(sum(1 << time for time in set(mine)), ends[ticks], note)
                        right = (min(mine), max(mine)) if mine else None
                        told = true_times(program, sampler, focus, list(row), ticks=ticks)
                        self.assertEqual(told, right, (note, focus, ticks))

    def test_runs_of_any_length(self):
        seen = set()
        for program, sampler in MIXED:
            found = rows_by_words(program, sampler)
            web, starts = web_of(program, sampler), first_states(program, sampler)
            for at, row in enumerate(some_rows(program, found)):
                focus = focuses(program)[at % 4]
                ends = ends_by_words(web, starts, focus, row, LONG)
                right = bounds_of(joined(ends))
                if right is not None and right[1] > bounds_of(joined(ends[:LONG - 20]))[1]:
                    right = right[0], None
                note = (show(program, sampler), focus, row)
                self.assertEqual(true_times(program, sampler, focus, list(row)), right, note)
                self.assertIs(can_be(program, sampler, list(row)), right is not None, note)
                self.assertEqual(true_times(program, sampler, focus, list(row), ticks=40), bounds_of(ends[40]), note)
                self.check_places(program, web, starts, sampler, row, right is not None)
                self.check_witness(program, sampler, focus, row, ends)
                seen.add(right if right is None else right[1] is None)
        self.assertEqual(seen, {None, True, False})

    def check_places(self, program, web, starts, sampler, row, is_noted):
        sure = []
        for name in sorted(program.names):
            rest = {state: {after: noted for after, noted in web[state].items() if after[0] != name}
                    for state in web if state[0] != name}
            others_of_start = [(state, noted) for state, noted in starts if state[0] != name]
            if not any(ends_by_words(rest, others_of_start, (), row, LONG)):
                sure.append(name)
        self.assertEqual(sure_places(program, sampler, list(row)), sure if is_noted else None)

    def check_witness(self, program, sampler, focus, row, ends):
        for time in (0, 1, 2, 3, 5, 11):
            told = witness(program, sampler, focus, list(row), time)
            fewest = next((ticks for ticks, bits in enumerate(ends) if bits >> time & 1), None)
            note = (show(program, sampler), focus, row, time)
            if told is None:
                self.assertIsNone(fewest, note)
            else:
                phase, stays, looks = told
                self.assertEqual([type(told), type(phase), type(stays), type(looks)], [tuple, int, list, list])
                record = observe(program, sampler, stays, looks, phase=phase)
                self.assertEqual(tuple(name for _, name in record.notes), row, note)
                self.assertEqual(times_of(record, focus), time, note)
                self.assertEqual(record.ticks, fewest, note)


class RowsTest(unittest.TestCase):

    def test_the_empty_row(self):
        self.assertIs(can_be(TWO, EVEN, []), False)
        self.assertIs(can_be(TWO, Sampler(2, phase=1), []), True)
        self.assertEqual(true_times(TWO, Sampler(2, phase=1), ("a",), []), (1, 1))
        self.assertIsNone(true_times(TWO, Sampler(2, phase=1), ("a",), [], ticks=2))
        self.assertEqual(sure_places(TWO, Sampler(2, phase=1), []), ["a"])
        self.assertEqual(witness(TWO, Sampler(2, phase=1), ("a",), [], 1), (1, [("a", 1)], [None]))
        self.assertIsNone(witness(TWO, Sampler(2, phase=1), ("a",), [], 0))
        closed = program_of("a 1 2 closed a b, b 1 1 closed a")
        self.assertEqual(true_times(closed, EVEN, ("b",), []), (0, None))
        self.assertEqual(true_times(closed, EVEN, ("a",), []), (1, None))
        self.assertEqual(true_times(closed, EVEN, ("a",), [], ticks=40), (20, 40))
        self.assertEqual(sure_places(closed, EVEN, []), ["a"])
        self.assertEqual(can_be(closed, EVEN, ["b"]), False)

    def test_twenty_names(self):
        row = ["a"] * 20
        self.assertIs(can_be(TWO, EVEN, row), True)
        self.assertEqual(true_times(TWO, EVEN, ("b",), row), (19, 20))
        self.assertEqual(true_times(TWO, EVEN, ("b", "a"), row), (39, 40))
        self.assertEqual(true_times(TWO, EVEN, ("b",), row, ticks=40), (20, 20))
        self.assertEqual(true_times(TWO, EVEN, ("b",), row, ticks=39), (19, 19))
        self.assertIsNone(true_times(TWO, EVEN, ("b",), row, ticks=38))
        self.assertEqual(witness(TWO, EVEN, ("b", "a"), row, 40)[2], [0] * 20)
        self.assertEqual(error_of(NoRow, can_be, TWO, EVEN, row + ["a"]), {"index": -1})

    def test_ticks_0_1_and_40(self):
        self.assertIsNone(true_times(TWO, EVEN, ("a",), ["a"], ticks=0))
        self.assertIsNone(true_times(TWO, EVEN, ("a",), [], ticks=0))
        self.assertEqual(true_times(TWO, EVEN, ("a",), ["a"], ticks=1), (1, 1))
        self.assertEqual(true_times(TWO, EVEN, ("b",), ["a"], ticks=1), (0, 0))
        self.assertIsNone(true_times(TWO, EVEN, ("a",), ["b"], ticks=1))

    def test_a_greatest_time_that_is_none(self):
        program = program_of("a 1 1 open b c, b 1 1 closed b, c 1 1 closed a")
        self.assertEqual(true_times(program, Sampler(1), ("b",), ["a"]), (0, None))
        self.assertEqual(true_times(program, Sampler(1), ("a",), ["a"]), (1, 1))
        self.assertEqual(true_times(program, Sampler(1), ("c",), ["a", "a"]), (1, 2))
        self.assertEqual(true_times(program, Sampler(1), ("b", "c"), ["a", "a"]), (1, None))
        # The program can wait in b, but not on the way to what is noted behind it.
        self.assertEqual(true_times(program_of("a 1 1 open b c, b 1 1 closed b, c 1 1 open"), Sampler(1), ("b",),
                                    ["a", "c"]), (0, 0))

    def test_a_wait_between_two_notes(self):
        program = program_of("a 1 1 open b, b 1 1 closed b a")
        self.assertEqual(true_times(program, Sampler(1), ("b",), ["a", "a"]), (1, None))
        self.assertEqual(true_times(program, Sampler(1), ("a",), ["a", "a"]), (2, 2))
        self.assertEqual(sure_places(program, Sampler(1), ["a"]), ["a"])
        self.assertEqual(sure_places(program, Sampler(1), ["a", "a"]), ["a", "b"])

    def test_sure_places_are_in_ascending_order(self):
        program = program_of("d 1 1 open c, c 1 1 closed a b, b 1 1 open d, a 1 1 open d")
        self.assertEqual(sure_places(program, Sampler(1), ["d", "b", "d"]), ["b", "c", "d"])
        self.assertEqual(sure_places(program, Sampler(1), ["d"]), ["d"])
        self.assertIsNone(sure_places(program, Sampler(1), ["d", "d"]))
        self.assertIsNone(sure_places(program, Sampler(1), ["c"]))

    def test_programs_that_can_only_go_one_way(self):
        line = program_of("a 2 2 open b, b 1 1 closed c, c 3 3 open")
        self.assertEqual(sure_places(line, Sampler(1), ["a", "a", "c"]), ["a", "b", "c"])
        self.assertEqual(sure_places(line, Sampler(1), ["a", "a"]), ["a"])
        self.assertEqual(true_times(line, Sampler(1), ("b", "c"), ["a", "a"]), (0, 1))
        self.assertEqual(true_times(line, Sampler(1), ("b", "c"), ["a", "a", "c", "c", "c"]), (4, 4))
        self.assertIs(can_be(line, Sampler(1), ["a", "a", "c", "c", "c", "c"]), False)
        self.assertEqual(witness(line, Sampler(1), ("b",), ["a", "a"], 1), (0, [("a", 2), ("b", 1)], [0, 0, 0]))

    def test_what_is_passed_stays_and_what_is_told_may_be_changed(self):
        row = ["a", "a"]
        for _ in range(2):
            can_be(TWO, EVEN, row)
            true_times(TWO, EVEN, ("b",), row)
            sure_places(TWO, EVEN, row).clear()
            told = witness(TWO, EVEN, ("b",), row, 2)
            self.assertEqual(told, (0, [("a", 1), ("b", 1), ("a", 1), ("b", 1)], [0, 0]))
            told[1].clear()
            told[2].clear()
        self.assertEqual(row, ["a", "a"])
        self.assertEqual(sure_places(TWO, EVEN, row), ["a", "b"])


class WitnessTest(unittest.TestCase):

    def test_200_ticks_and_more(self):
        for many in (1, 10, 11):
            phase, stays, looks = witness(NINE, Sampler(1), ("a",), ["a"] * many, many)
            self.assertEqual(observe(NINE, Sampler(1), stays, looks).ticks, 10 + 19 * (many - 1))
        self.assertEqual(10 + 19 * 10, 200)
        self.assertIs(can_be(TEN, Sampler(1), ["a"] * 11), True)
        self.assertIsNone(witness(TEN, Sampler(1), ("a",), ["a"] * 11, 11))
        self.assertIsNone(witness(NINE, Sampler(1), ("a",), ["a"] * 12, 12))
        self.assertEqual(true_times(NINE, Sampler(1), ("a",), ["a"] * 12), (12, 12))
        self.assertEqual(true_times(NINE, Sampler(1), ("b", "c"), ["a"] * 20), (19 * 12, 19 * 12 + 12))

    def test_a_time_that_no_run_has(self):
        self.assertIsNone(witness(TWO, EVEN, ("b",), ["a", "a"], 0))
        self.assertIsNone(witness(TWO, EVEN, ("b",), ["a", "a"], 3))
        self.assertIsNone(witness(TWO, EVEN, ("b",), ["b"], 1))
        self.assertIsNone(witness(TWO, EVEN, ("b",), [], 0))

    def test_the_time_40(self):
        program = program_of("a 1 1 open b, b 1 1 closed b a")
        phase, stays, looks = witness(program, Sampler(1), ("b",), ["a", "a"], 40)
        self.assertEqual(observe(program, Sampler(1), stays, looks).ticks, 42)


class LargeTest(unittest.TestCase):

    def test_a_web_with_many_states(self):
        program, sampler = WIDE
        web, starts = web_of(program, sampler), first_states(program, sampler)
        self.assertGreater(len(web), 250)
        cases = [(("a", "c") * 10, ("a",)), (("c", "a", "a", "c") * 5, ("b", "c")), ((), ("a", "d"))]
        for row, focus in cases:
            ends = ends_by_words(web, starts, focus, row, 400)
            right = bounds_of(joined(ends))
            told = true_times(program, sampler, focus, list(row))
            self.assertEqual(told, (right[0], None if focus == ("b", "c") else right[1]))
            for ticks in (20, 33, 40):
                self.assertEqual(true_times(program, sampler, focus, list(row), ticks=ticks), bounds_of(ends[ticks]))
            for time in (0, 13, 40):
                told = witness(program, sampler, focus, list(row), time)
                fewest = next((ticks for ticks, bits in enumerate(ends) if bits >> time & 1), None)
                ticks = told and observe(program, sampler, *told[1:], phase=told[0]).ticks
                self.assertEqual(ticks, fewest)

    def test_300_states(self):
        self.assertIs(can_be(*FULL, []), True)
        self.assertIs(can_be(*FULL, ["a"] * 20), False)
        self.assertEqual(true_times(*FULL, ("b", "c"), []), (0, None))
        self.assertEqual(true_times(*FULL, ("a",), [], ticks=40), (1, 40))
        self.assertEqual(sure_places(*FULL, []), ["a"])
        self.assertEqual(sum(ticks for name, ticks in witness(*FULL, ("b",), [], 40)[1] if name == "b"), 40)


class ErrorsTest(unittest.TestCase):

    def test_what_is_no_row(self):
        calls = [lambda row: can_be(*OVER, row), lambda row: sure_places(*OVER, row),
                 lambda row: true_times(*OVER, ("a",), row, ticks=-1), lambda row: witness(*OVER, ("a",), row, None)]
        for call in calls:
            for thing in others(list):
                self.assertEqual(error_of(NoRow, call, thing), {"index": -1})
            for thing in others(str) + ["z", "", "A", "aa"]:
                self.assertEqual(error_of(NoRow, call, [thing]), {"index": 0})
                self.assertEqual(error_of(NoRow, call, ["b", "a"] * 9 + ["b", thing]), {"index": 19})
                self.assertEqual(error_of(NoRow, call, ["b", thing, "a", thing]), {"index": 1})
                self.assertEqual(error_of(NoRow, call, [thing] * 21), {"index": -1})

    def test_the_order_of_the_errors(self):
        for row in ([], ["a"] * 20):
            for program, sampler in LARGE:
                self.assertEqual(error_of(TooMany, can_be, program, sampler, row), {"limit": 300})
                self.assertEqual(error_of(TooMany, sure_places, program, sampler, row), {"limit": 300})
                for ticks in (None, 0, 40):
                    self.assertEqual(error_of(TooMany, true_times, program, sampler, ("a",), row, ticks=ticks),
                                     {"limit": 300})
                self.assertEqual(error_of(TooMany, witness, program, sampler, ("a",), row, 40), {"limit": 300})

    def test_what_is_no_number_of_ticks(self):
        for thing in others(int, type(None)) + [True, False, -1, 41, 10 ** 99]:
            self.assertEqual(error_of(NoLeast, true_times, *OVER, ("a",), [], ticks=thing), {})
            self.assertEqual(error_of(NoLeast, witness, *OVER, ("a",), [], thing), {})
        self.assertEqual(error_of(NoLeast, witness, *OVER, ("a",), [], None), {})

    def test_the_focus_comes_first(self):
        for thing in others(tuple) + [()]:
            self.assertEqual(error_of(NoFocus, true_times, *OVER, thing, None, ticks=-1), {"index": -1})
            self.assertEqual(error_of(NoFocus, witness, *OVER, thing, None, None), {"index": -1})
        for thing in others(str) + ["a", "z"]:
            self.assertEqual(error_of(NoFocus, true_times, *OVER, ("a", thing), None, ticks=-1), {"index": 1})
            self.assertEqual(error_of(NoFocus, witness, *OVER, ("a", thing), None, None), {"index": 1})


if __name__ == "__main__":
    unittest.main()
