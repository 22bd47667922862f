"""Points 3.2 and 4.1 to 4.8, and 0.5 and 0.6 as far as they speak of runs."""

import copy
import inspect
import unittest

from seenshares import runs
from seenshares.errors import BadLook, BadPhase, BadStay, NoFocus, NoTicks
from seenshares.programs import Place, Program
from seenshares.runs import Record, observe, seen_of, times_of
from seenshares.samplers import Sampler
from seenshares.shares import Share
from tests.cases import CASES, all_runs, error_of, program_of, record_by_words, show
from tests.objects import others

WEB = program_of("a 1 2 open b, b 1 2 closed a")
LONG = program_of("a 2 3 open b c, b 1 1 closed a, c 4 6 open")


def told(record):
    """The five attributes of a record."""
    return [record.ticks, record.times, record.notes, record.waiting, record.lost]


def bad_stay(program, stays, sampler=Sampler(2), looks=(), phase="x"):
    """The index of BadStay, ahead of wrong looks and a wrong phase."""
    return error_of(BadStay, observe, program, sampler, stays, looks, phase=phase)["index"]


def bad_look(sampler, stays, looks, **more):
    """The index of BadLook."""
    return error_of(BadLook, observe, WEB, sampler, stays, looks, **more)["index"]


class ObserveTest(unittest.TestCase):

    def test_the_parameters(self):
        self.assertEqual(str(inspect.signature(observe)), "(program, sampler, stays, looks, *, phase=None)")
        self.assertEqual(str(inspect.signature(times_of)), "(record, focus)")
        self.assertEqual(str(inspect.signature(seen_of)), "(record, focus, sampler)")

    def test_the_example(self):
        record = observe(WEB, Sampler(2), [("a", 1), ("b", 2), ("a", 1), ("b", 1)], [0, 0, 0])
        self.assertIs(type(record), Record)
        self.assertEqual(told(record), [5, {"a": 2, "b": 3}, [(0, "a"), (3, "a")], True, 0])
        self.assertIs(record.waiting, True)

    def test_all_short_runs(self):
        for program, sampler in CASES:
            for ticks in range(1, 7):
                for phase, stays, looks in all_runs(program, sampler, ticks):
                    record = observe(program, sampler, stays, looks, phase=phase)
                    right = record_by_words(program, sampler, phase, stays, looks)
                    self.assertEqual(told(record), right, (show(program, sampler), phase, stays, looks))
                    self.assertEqual(list(record.times), list(program.names))
                    self.assertIs(type(record.waiting), bool)
                    came = len([look for look in looks if look is not None])
                    self.assertEqual(len(record.notes) + record.lost + int(record.waiting), came)

    def test_the_names_in_times_are_all_and_in_their_order(self):
        program = program_of("c 1 1 open b, a 1 1 open c, b 2 2 open c", start="b")
        record = observe(program, Sampler(2), [("b", 2), ("c", 1)], [0, 0])
        self.assertEqual(list(record.times.items()), [("c", 1), ("a", 0), ("b", 2)])

    def test_several_looks_that_wait_become_one(self):
        program = program_of("a 5 5 closed b, b 1 1 open")
        for ticks, looks, right in [
            (1, [0], [1, {"a": 1, "b": 0}, [], True, 0]), (4, [0, 1], [4, {"a": 4, "b": 0}, [], True, 1]),
            (5, [0, 0, 0], [5, {"a": 5, "b": 0}, [], True, 2]),
        ]:
            self.assertEqual(told(observe(program, Sampler(2, 1), [("a", ticks)], looks)), right)
        record = observe(program, Sampler(2, 1), [("a", 5), ("b", 1)], [0, 0, 0])
        self.assertEqual(told(record), [6, {"a": 5, "b": 1}, [(5, "b")], False, 2])
        record = observe(program, Sampler(2, 1), [("a", 5), ("b", 1)], [0, 0, 1])
        self.assertEqual(told(record), [6, {"a": 5, "b": 1}, [(5, "b")], False, 2])

    def test_a_slot_that_began_before_the_first_tick(self):
        stays = [("a", 2), ("b", 2), ("a", 2)]
        record = observe(WEB, Sampler(4, 1, phase=2), stays, [None, 0])
        self.assertEqual(told(record), [6, {"a": 4, "b": 2}, [(4, "a")], False, 0])
        record = observe(WEB, Sampler(4, 2, phase=None), stays, [2, 2], phase=2)
        self.assertEqual(told(record), [6, {"a": 4, "b": 2}, [(0, "a"), (4, "a")], False, 0])
        record = observe(WEB, Sampler(4, 3, phase=2), stays, [3, 3])
        self.assertEqual(told(record), [6, {"a": 4, "b": 2}, [(1, "a"), (5, "a")], False, 0])

    def test_the_phase_can_be_given_twice(self):
        stays = [("a", 2), ("b", 1)]
        one = observe(WEB, Sampler(2, phase=1), stays, [None, 0])
        other = observe(WEB, Sampler(2, phase=1), stays, [None, 0], phase=1)
        self.assertEqual(told(one), told(other))

    def test_what_is_passed_stays_and_may_change_later(self):
        stays, looks = [("a", 1), ("b", 2), ("a", 1), ("b", 1)], [0, 0, 0]
        record = observe(WEB, Sampler(2), stays, looks)
        self.assertEqual((stays, looks), ([("a", 1), ("b", 2), ("a", 1), ("b", 1)], [0, 0, 0]))
        before = copy.deepcopy(told(record))
        stays.clear()
        looks[0] = None
        self.assertEqual(told(record), before)
        stays = [("a", 1), ("a", 1)]
        error_of(BadStay, observe, WEB, Sampler(2), stays, looks)
        self.assertEqual((stays, looks), ([("a", 1), ("a", 1)], [None, 0, 0]))

    def test_each_record_has_its_own_list_and_dict(self):
        one = observe(WEB, Sampler(2), [("a", 1)], [0])
        one.notes.append((7, "b"))
        one.times["a"] = 5
        self.assertEqual(told(observe(WEB, Sampler(2), [("a", 1)], [0])), [1, {"a": 1, "b": 0}, [(0, "a")], False, 0])


class StaysTest(unittest.TestCase):

    def test_what_is_no_list_of_stays(self):
        for thing in others(list) + [[], (("a", 1),), {"a": 1}, {("a", 1): 1}]:
            self.assertEqual(bad_stay(WEB, thing), -1)

    def test_what_is_no_stay(self):
        for thing in others() + [["a", 1], ("a",), ("a", 1, 1), (1, "a"), ("c", 1), ("", 1), (b"a", 1), (("a",), 1),
                                 (["a"], 1), (None, 1), ("A", 1), "a1"]:
            self.assertEqual(bad_stay(WEB, [thing]), 0)
            self.assertEqual(bad_stay(WEB, [("a", 1), thing]), 1)
            self.assertEqual(bad_stay(WEB, [("a", 1), ("b", 1), thing, ("b", 1)]), 2)
            self.assertEqual(bad_stay(WEB, [thing, thing]), 0)
        for thing in others(int) + [True, False, 10 ** 99]:
            self.assertEqual(bad_stay(WEB, [("a", thing)]), 0)
            self.assertEqual(bad_stay(WEB, [("a", 1), ("b", thing)]), 1)
            self.assertEqual(bad_stay(WEB, [("a", thing), ("b", 1)]), 0)

    def test_the_start_and_the_nexts(self):
        self.assertEqual(bad_stay(WEB, [("b", 1)]), 0)
        self.assertEqual(bad_stay(WEB, [("b", 1), ("a", 1)]), 0)
        self.assertEqual(bad_stay(WEB, [("a", 1), ("a", 1)]), 1)
        self.assertEqual(bad_stay(WEB, [("a", 1), ("b", 1), ("b", 1), ("b", 1)]), 2)
        self.assertEqual(bad_stay(LONG, [("a", 2), ("c", 4), ("c", 4)]), 2)
        self.assertEqual(bad_stay(program_of("a 1 1 open b, b 1 1 open a", start="b"), [("a", 1)]), 0)
        alone = program_of("a 1 2 open a")
        self.assertEqual(observe(alone, Sampler(8), [("a", 1), ("a", 2), ("a", 1)], [0]).times, {"a": 4})

    def test_too_few_and_too_many_ticks(self):
        for ticks in (-1, 0, 1, 4, 5):
            self.assertEqual(bad_stay(LONG, [("a", ticks), ("b", 1)]), 0)
        for ticks in (-1, 0, 1, 3, 7):
            self.assertEqual(bad_stay(LONG, [("a", 2), ("c", ticks), ("a", 1)]), 1 if ticks != 4 else 2)
        for ticks in (-1, 0, 7):
            self.assertEqual(bad_stay(LONG, [("a", 2), ("c", ticks)]), 1)
        self.assertEqual(bad_stay(LONG, [("a", 0)]), 0)
        self.assertEqual(bad_stay(LONG, [("a", 4)]), 0)

    def test_the_last_stay_may_be_shorter(self):
        for ticks in (1, 2, 3):
            self.assertEqual(observe(LONG, Sampler(8), [("a", ticks)], [0]).ticks, ticks)
        for ticks in range(1, 7):
            self.assertEqual(observe(LONG, Sampler(8), [("a", 2), ("c", ticks)], [0]).ticks, 2 + ticks)

    def test_the_first_wrong_stay_is_told(self):
        self.assertEqual(bad_stay(LONG, [("a", 2), ("b", 2), ("c", 1), None]), 1)
        self.assertEqual(bad_stay(LONG, [("a", 1), ("a", 1)]), 0)


class PhaseTest(unittest.TestCase):

    def phase(self, sampler, phase):
        return error_of(BadPhase, observe, WEB, sampler, [("a", 1)], "no looks", phase=phase)["phase"]

    def test_a_phase_that_is_missing(self):
        told_phase = error_of(BadPhase, observe, WEB, Sampler(3, phase=None), [("a", 1)], [0])["phase"]
        self.assertIsNone(told_phase)

    def test_a_sampler_without_a_phase(self):
        for thing in others(int) + [True, False, -1, 3, 10 ** 99]:
            self.assertIs(self.phase(Sampler(3, phase=None), thing), thing)
        for phase, looks in ((0, [0]), (1, [None]), (2, [None])):
            self.assertEqual(observe(WEB, Sampler(3, phase=None), [("a", 1)], looks, phase=phase).ticks, 1)

    def test_a_sampler_with_a_phase(self):
        for thing in others(int, type(None)) + [True, False, -1, 0, 2, 3, Share(1)]:
            self.assertIs(self.phase(Sampler(3, phase=1), thing), thing)
        self.assertIs(self.phase(Sampler(3), False), False)
        self.assertIs(self.phase(Sampler(1), True), True)

    def test_stays_come_first(self):
        self.assertEqual(bad_stay(WEB, [], Sampler(3, phase=None), [0], None), -1)
        self.assertEqual(bad_stay(WEB, [("b", 1)], Sampler(3), [0], 7), 0)


class LooksTest(unittest.TestCase):

    def test_what_is_no_list_or_has_another_length(self):
        stays = [("a", 2), ("b", 2), ("a", 1)]
        for thing in others(list) + [[], [0], [0, 0], [0, 0, 0, 0], (0, 0, 0), {0: 0, 1: 0, 2: 0}]:
            self.assertEqual(bad_look(Sampler(2), stays, thing), -1)
        self.assertEqual(bad_look(Sampler(2, phase=1), stays, [None, 0]), -1)
        self.assertEqual(bad_look(Sampler(2, phase=1), stays, [None, 0, 0, 0]), -1)
        self.assertEqual(observe(WEB, Sampler(2, phase=1), stays, [None, 0, 0]).ticks, 5)

    def test_other_kinds_in_each_place(self):
        stays = [("a", 2), ("b", 2), ("a", 2)]
        for thing in others(int, type(None)) + [True, False, -1, 2, 10 ** 99]:
            for at in range(3):
                looks = [1, 1, 1]
                looks[at] = thing
                self.assertEqual(bad_look(Sampler(2, 1), stays, looks), at)
                self.assertEqual(bad_look(Sampler(2, 1), stays, looks[:at] + [thing] * (3 - at)), at)
        for at in range(3):
            looks = [1, 0, 1]
            looks[at] = None
            self.assertEqual(bad_look(Sampler(2, 1), stays, looks), at)

    def test_each_look_in_turn_against_the_words(self):
        things = [None, -1, 0, 1, 2, 3, 4]
        for sampler in (Sampler(4, jitter, phase=phase) for jitter in range(4) for phase in range(4)):
            for ticks in range(1, 9):
                right = [looks for _, _, looks in all_runs(program_of("a 6 6 open a"), sampler, ticks)]
                for at in range(len(right[0])):
                    others_right = [looks[:at] + looks[at + 1:] for looks in right]
                    for thing in things:
                        for rest in others_right:
                            looks = rest[:at] + [thing] + rest[at:]
                            self.check(sampler, ticks, looks, at, looks in right)

    def check(self, sampler, ticks, looks, at, is_right):
        program = program_of("a 6 6 open a")
        stays = [("a", 6), ("a", ticks - 6)] if ticks > 6 else [("a", ticks)]
        if is_right:
            self.assertEqual(observe(program, sampler, stays, looks).ticks, ticks)
        else:
            told_index = error_of(BadLook, observe, program, sampler, stays, looks)["index"]
            self.assertEqual(told_index, at, (vars(sampler), ticks, looks))

    def test_none_in_the_first_and_in_the_last_slot(self):
        self.assertEqual(bad_look(Sampler(2, 1), [("a", 2)], [None]), 0)
        self.assertEqual(told(observe(WEB, Sampler(2, 1), [("a", 1)], [None])), [1, {"a": 1, "b": 0}, [], False, 0])
        self.assertEqual(bad_look(Sampler(3, 1), [("a", 2), ("b", 2)], [None, None]), 0)
        record = observe(WEB, Sampler(3, 1), [("a", 2), ("b", 2)], [1, None])
        self.assertEqual(told(record), [4, {"a": 2, "b": 2}, [(1, "a")], False, 0])
        self.assertEqual(bad_look(Sampler(3, phase=1), [("a", 1)], [1]), 0)
        self.assertEqual(bad_look(Sampler(3, phase=1), [("a", 1)], [0]), 0)
        self.assertEqual(bad_look(Sampler(3, phase=1), [("a", 2), ("b", 2)], [None, None]), 1)
        self.assertEqual(bad_look(Sampler(3, 2, phase=1), [("a", 2)], [0]), 0)
        self.assertEqual(observe(WEB, Sampler(3, 2, phase=1), [("a", 1)], [None]).notes, [])


class TicksTest(unittest.TestCase):

    def test_2000_ticks_and_one_more(self):
        program = program_of("a 1 5 open a")
        for ticks, looks in ((1999, 1000), (2000, 1000)):
            stays = [("a", 5)] * 399 + [("a", ticks - 1995)]
            self.assertEqual(observe(program, Sampler(2), stays, [0] * looks).ticks, ticks)
        for ticks in (2001, 2005, 3000):
            stays = [("a", 1)] * ticks
            self.assertEqual(error_of(NoTicks, observe, program, Sampler(2), stays, [0] * ((ticks + 1) // 2)), {})

    def test_all_else_comes_first(self):
        program = program_of("a 1 1 open a")
        stays, looks = [("a", 1)] * 2001, [0] * 2001
        self.assertEqual(error_of(BadLook, observe, program, Sampler(1), stays, looks[1:])["index"], -1)
        self.assertEqual(error_of(BadLook, observe, program, Sampler(1), stays, looks[1:] + [1])["index"], 2000)
        self.assertEqual(error_of(BadPhase, observe, program, Sampler(1), stays, [], phase=4)["phase"], 4)
        self.assertEqual(bad_stay(program, stays + [("a", 2)]), 2001)


class FocusTest(unittest.TestCase):

    def setUp(self):
        self.program = program_of("c 1 2 open a b c, a 2 2 closed c, b 1 3 open a")
        stays = [("c", 2), ("b", 1), ("a", 2), ("c", 1), ("c", 2)]
        self.record = observe(self.program, Sampler(2, 1), stays, [1, 0, 1, 0])

    def test_times_and_seen(self):
        self.assertEqual(told(self.record), [8, {"c": 5, "a": 2, "b": 1}, [(1, "c"), (2, "b"), (5, "c"), (6, "c")],
                                             False, 0])
        for focus, time, notes in [(("a",), 2, 0), (("b",), 1, 1), (("c",), 5, 3), (("a", "b"), 3, 1),
                                   (("c", "a"), 7, 3), (("c", "b"), 6, 4), (("a", "b", "c"), 8, 4)]:
            for order in (focus, focus[::-1]):
                self.assertEqual(times_of(self.record, order), time)
                self.assertEqual(seen_of(self.record, order, Sampler(2, 1)), 2 * notes)
                self.assertEqual(seen_of(self.record, order, Sampler(7)), 7 * notes)

    def test_six_places(self):
        program = Program([Place(name) for name in "abcdef"], {name: ("abcdefa"["abcdef".index(name) + 1],)
                                                               for name in "abcdef"})
        record = observe(program, Sampler(2), [("a", 1), ("b", 1), ("c", 1)], [0, 0])
        self.assertEqual(times_of(record, tuple("fedcba")), 3)
        self.assertEqual(seen_of(record, tuple("fedcba"), Sampler(2)), 4)

    def index(self, focus):
        one = error_of(NoFocus, times_of, self.record, focus)["index"]
        self.assertEqual(error_of(NoFocus, seen_of, self.record, focus, Sampler(2))["index"], one)
        return one

    def test_what_is_no_tuple_or_empty(self):
        for thing in others(tuple) + [(), ["a"], "a", {"a": 1}]:
            self.assertEqual(self.index(thing), -1)

    def test_wrong_items(self):
        for thing in others(str) + ["", "d", "A", "ab", "aa", " a", "any"]:
            self.assertEqual(self.index((thing,)), 0)
            self.assertEqual(self.index(("b", thing)), 1)
            self.assertEqual(self.index((thing, "b")), 0)
            self.assertEqual(self.index(("a", "c", thing, thing)), 2)

    def test_a_name_twice(self):
        self.assertEqual(self.index(("a", "a")), 1)
        self.assertEqual(self.index(("a", "b", "a", "b")), 2)
        self.assertEqual(self.index(("a", "b", "c", "c", None)), 3)
        self.assertEqual(self.index(tuple("abcabcabc")), 3)

    def test_nothing_has_changed(self):
        before = copy.deepcopy(told(self.record))
        times_of(self.record, ("a",))
        seen_of(self.record, ("a",), Sampler(2))
        self.index(("zz",))
        self.assertEqual(told(self.record), before)

    def test_the_limit_of_a_run(self):
        self.assertEqual(runs.MOST_RUN_TICKS, 2000)


if __name__ == "__main__":
    unittest.main()
