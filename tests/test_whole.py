"""What the document promises over the whole program: points 0.5, 0.6 and 5.6 for all functions, and parts together."""

import unittest

from seenshares.bounds import hidden, over, seen_range, surest, true_range, under
from seenshares.counts import Counts, counts_of
from seenshares.errors import SeenError, TooMany
from seenshares.finite import certificate, certificate_fault, excess, worst
from seenshares.knots import knot_of, knots
from seenshares.live import Profile
from seenshares.papers import paper, paper_fault
from seenshares.polygons import corners, inside, polygon
from seenshares.rings import as_run, lead, ring, ring_fault
from seenshares.runs import observe, seen_of, times_of
from seenshares.samplers import Sampler
from seenshares.settings import jitters_within, lets, measure, periods_within
from seenshares.shares import Share
from seenshares.states import first_states, reach, reached, steps
from seenshares.texts import read, read_run, write, write_run
from seenshares.told import can_be, sure_places, true_times, witness
from tests.cases import CASES, FULL, OVER, error_of, program_of, short_runs, show, woven

START = ("a", 1, 0, False, False)
# All functions that need the web, with right arguments behind the program and the sampler.
NEED_THE_WEB = [
    (reach,), (knots,), (knot_of, START), (polygon, ("a",), 0), (corners, ("a",)), (ring, ("a",), 0, (0, 0)),
    (ring_fault, ("a",), [], (0, 0)), (lead, START), (paper, ("a",), 0, 1, 1), (paper_fault, ("a",), 0, 1, 1, 1, {}),
    (hidden, ("a",)), (over, ("a",)), (under, ("a",)), (seen_range, ("a",), 1), (true_range, ("a",), 0), (surest,),
    (excess, ("a",), "over"), (worst, ("a",), "over", 0), (certificate, ("a",), "under"),
    (certificate_fault, ("a",), "over", {}, 0), (can_be, []), (true_times, ("a",), []), (sure_places, []),
    (witness, ("a",), [], 1), (measure, ("a",), "over"), (jitters_within, ("a",), "over", 1),
]
# Calls with something wrong, or with webs that are too large.
WRONG = [
    (knots,), (polygon, ("z",), 0), (ring, ("a",), 0, None), (paper, ("a",), 0, 0, 0), (hidden, ("a", "a")),
    (seen_range, ("a",), None), (excess, ("a",), None), (worst, ("a",), "over", -1), (can_be, ["z"]),
    (true_times, ("a",), ["a", "z"]), (witness, ("a",), ["a"], None), (measure, ("a",), None),
    (jitters_within, ("a",), "over", None), (lets, ("a",), "over", 1), (periods_within, ("a",), "over", 1),
    (certificate_fault, ("a",), "over", {}, None), (steps, None), (as_run, [None]), (lead, None),
]


class WebTest(unittest.TestCase):

    def test_300_states_are_not_too_many(self):
        for call, *rest in NEED_THE_WEB:
            try:
                call(*FULL, *rest)
            except TooMany:
                self.fail(call.__name__)
            except SeenError:
                self.assertIs(call, ring)
        self.assertEqual(len(list(reached(*FULL))), 300)

    def test_301_states_are_too_many(self):
        for call, *rest in NEED_THE_WEB + [(periods_within, ("a",), "over", 1)]:
            self.assertEqual(error_of(TooMany, call, *OVER, *rest), {"limit": 300}, call.__name__)
        four = woven("closed", 6, 6, 6, 6), Sampler(8, 7)
        self.assertEqual(error_of(TooMany, lets, *four, ("a",), "over", 1), {"limit": 300})
        self.assertEqual(error_of(TooMany, next, reached(*four)), {"limit": 300})

    def test_what_does_not_need_the_web(self):
        self.assertTrue(first_states(*OVER))
        self.assertTrue(steps(*OVER, ("a", 1, 6, True, False)))
        self.assertEqual(read(write(*OVER)), OVER)
        profile = Profile(*OVER)
        profile(profile.choices()[0])
        phase, stays, looks = profile.run()
        self.assertEqual(observe(*OVER, stays, looks, phase=phase).ticks, 1)


class KeptTest(unittest.TestCase):

    def test_no_call_changes_the_program_or_the_sampler(self):
        for program, sampler in (OVER, FULL, CASES[0], CASES[40]):
            before = write(program, sampler), vars(sampler).copy(), list(program.nexts.items())
            for call, *rest in NEED_THE_WEB + WRONG:
                given = repr(rest)
                try:
                    call(program, sampler, *rest)
                except SeenError:
                    pass
                self.assertEqual(repr(rest), given)
                self.assertEqual((write(program, sampler), vars(sampler), list(program.nexts.items())), before)


class TogetherTest(unittest.TestCase):

    def test_runs_as_texts_profiles_roads_and_records(self):
        for program, sampler in CASES[::4]:
            other, same = read(write(program, sampler))
            self.assertTrue(other == program and same == sampler)
            for run, told in short_runs(program, sampler, 4):
                phase, stays, looks = read_run(write_run(*run))
                record = observe(other, same, stays, looks, phase=phase)
                self.assertEqual([record.ticks, record.times, record.notes, record.waiting, record.lost], told)
                came = len([look for look in looks if look is not None])
                self.assertEqual(len(record.notes) + record.lost + int(record.waiting), came)
                counts = counts_of(record)
                for name in program.names:
                    self.assertEqual(seen_of(record, (name,), sampler), sampler.period * counts[name])
                self.assertEqual(counts.total(), len(record.notes))
                self.assertEqual(sum(times_of(record, (name,)) for name in program.names), record.ticks)
                row = [name for _, name in record.notes]
                least, most = true_times(program, sampler, program.names, row, ticks=record.ticks)
                self.assertEqual([least, most], [record.ticks, record.ticks])

    def test_the_runs_that_functions_tell_can_be_written_and_made_live(self):
        program, sampler = program_of("a 1 2 open b, b 1 2 closed a"), Sampler(3, 1, phase=None)
        told = [worst(program, sampler, ("b",), "under", 9), witness(program, sampler, ("a",), ["a", "a"], 3),
                as_run(program, sampler, lead(program, sampler, ("b", 2, 1, True, True)))]
        for run in told:
            self.assertEqual(read_run(write_run(*run)), run)
            phase, stays, looks = run
            profile = Profile(program, sampler, phase=phase)
            moves = [name if at == 0 else None for name, ticks in stays for at in range(ticks)]
            path = [(move, looks[(phase + tick) // 3] == (phase + tick) % 3) for tick, move in enumerate(moves)]
            list(profile.watch(path))
            self.assertEqual(profile.run(), run)
            self.assertEqual(profile.record().notes, observe(program, sampler, stays, looks, phase=phase).notes)

    def test_live_profiles_come_close_to_the_polygon(self):
        program, sampler = program_of("a 1 1 open b, b 1 2 open a"), Sampler(2)
        shape = polygon(program, sampler, ("a",), 0)
        profile = Profile(program, sampler)
        list(profile.watch([("a", True), ("b", False)] * 500))
        counts = counts_of(profile.record())
        self.assertEqual([counts.present(), counts == 500 * Counts("a")], [["a"], True])
        self.assertTrue(inside(shape, (Share(profile.record().times["a"], 1000), Share(2 * counts["a"], 1000))))
        self.assertEqual(str(counts.share(("a",))), "1")

    def test_letting_all_places_lets_nothing_wait(self):
        for program, sampler in CASES[::3]:
            other = program.with_let(program.names)
            self.assertTrue(all(other[name].let for name in other.names))
            self.assertFalse(any(state[4] for state in reached(other, sampler)), show(program, sampler))
            self.assertTrue(other == program.with_let(program.names[::-1]))
            self.assertIsNone(hidden(other, sampler, other.names))
            closed = program.with_let(())
            self.assertFalse(any(noted for state in reached(closed, sampler)
                                 for _, noted in steps(closed, sampler, state)))


if __name__ == "__main__":
    unittest.main()
