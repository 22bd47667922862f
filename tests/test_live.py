"""Points 14.1 to 14.6, and 0.5 and 0.6 as far as they speak of profiles."""

import inspect
import unittest

from seenshares.errors import BadChoice, BadPhase, NoTicks
from seenshares.live import Profile
from seenshares.runs import Record, observe
from seenshares.samplers import Sampler
from tests.cases import CASES, all_runs, error_of, program_of, record_by_words, show, tick_rows
from tests.objects import others

WEB = program_of("a 1 2 open b, b 1 2 closed a")
LATE = Sampler(2, 1)
WAY = [("a", False), ("b", True), (None, False), ("a", True), (None, False), ("b", True)]
NOTES = [None, None, None, "a", None, None]


def path_by_words(program, sampler, phase, stays, looks):
    """The choices of point 14.1 that make a run."""
    path = []
    for tick, (name, spent) in enumerate(tick_rows(stays)):
        slot, spot = divmod(phase + tick, sampler.period)
        path.append((name if spent == 1 else None, looks[slot] == spot))
    return path


def choices_by_words(program, sampler, most):
    """For each phase and each path of fewer ticks than most the choices that some run takes next."""
    found = {}
    for ticks in range(1, most + 1):
        for run in all_runs(program, sampler, ticks):
            path = path_by_words(program, sampler, *run)
            found.setdefault((run[0], tuple(path[:-1])), set()).add(path[-1])
    return found


def in_order(program, choices):
    """Choices in the order of point 14.2."""
    places = {None: -1, **{name: at for at, name in enumerate(program.names)}}
    return sorted(choices, key=lambda choice: (places[choice[0]], choice[1]))


def attributes(record):
    """The five attributes of a record."""
    return [record.ticks, record.times, record.notes, record.waiting, record.lost]


def shown(profile):
    """All that a profile tells."""
    return [profile.ticks, profile.path(), profile.choices(), attributes(profile.record()),
            profile.run() if profile.ticks else None]


def made(way, program=WEB, sampler=LATE, phase=None):
    """A profile behind these choices."""
    profile = Profile(program, sampler, phase=phase)
    for choice in way:
        profile(choice)
    return profile


class ChoicesTest(unittest.TestCase):

    def test_the_parameters(self):
        self.assertEqual(str(inspect.signature(Profile)), "(program, sampler, *, phase=None)")
        for name, right in [("choices", "(self)"), ("path", "(self)"), ("record", "(self)"), ("run", "(self)"),
                            ("watch", "(self, choices)"), ("trial", "(self, choices)"), ("__call__", "(self, choice)")]:
            self.assertEqual(str(inspect.signature(vars(Profile)[name])), right)

    def test_against_all_short_runs(self):
        sizes = set()
        for program, sampler in CASES:
            for (phase, path), right in choices_by_words(program, sampler, 6).items():
                profile = made(path, program, sampler, phase)
                told = profile.choices()
                self.assertIs(type(told), list)
                self.assertEqual(repr(told), repr(in_order(program, right)), (show(program, sampler), phase, path))
                sizes.add(len(told))
        self.assertTrue({1, 2, 4} <= sizes)

    def test_no_choice_where_no_tick_can_follow(self):
        profile = made([("a", True), (None, False)], program_of("a 1 2 open"), Sampler(3))
        self.assertEqual(profile.choices(), [])
        for choice in [(None, False), (None, True), ("a", False), ("a", True)]:
            self.assertEqual(error_of(BadChoice, profile, choice), {"index": 2})

    def test_names_come_in_the_order_of_the_program(self):
        program = program_of("c 1 2 open a b c, b 1 1 open c, a 1 1 open c")
        told = made([("c", True)], program, Sampler(3, 2, phase=2)).choices()
        self.assertEqual(told, [(move, look) for move in (None, "c", "b", "a") for look in (False, True)])

    def test_looks_at_the_places_of_a_slot(self):
        loop = program_of("a 1 1 open a")
        for phase, right in [(0, [[False, True], [False, True], [True]]), (1, [[False, True], [True], [False]]),
                             (2, [[True], [False], [False, True]]), (3, [[False], [False, True], [False, True]])]:
            profile = Profile(loop, Sampler(4, 2, phase=phase))
            for flags in right:
                told = profile.choices()
                self.assertEqual([look for _, look in told], flags)
                profile(told[0])

    def test_a_list_that_was_told_may_be_changed(self):
        profile = made(WAY[:2])
        profile.choices().clear()
        profile.path().clear()
        profile.run()[1].clear()
        profile.run()[2].clear()
        profile.record().notes.append((0, "a"))
        profile.record().times.clear()
        self.assertEqual(profile.path(), WAY[:2])
        self.assertEqual(len(profile.choices()), 4)
        self.assertEqual(attributes(profile.record()), [2, {"a": 1, "b": 1}, [], True, 0])
        self.assertEqual(profile.run(), (0, [("a", 1), ("b", 1)], [1]))

    def test_2000_ticks(self):
        profile = Profile(WEB, Sampler(8, 3, phase=None), phase=5)
        for tick in range(2000):
            told = profile.choices()
            self.assertTrue(told, tick)
            profile(told[tick * 7 % len(told)])
        self.assertEqual([profile.ticks, profile.choices()], [2000, []])
        self.assertEqual(error_of(BadChoice, profile, (None, False)), {"index": 2000})
        self.assertEqual(len(profile.path()), 2000)
        phase, stays, looks = profile.run()
        record = observe(WEB, Sampler(8, 3, phase=None), stays, looks, phase=phase)
        self.assertEqual(attributes(profile.record()), attributes(record))
        self.assertEqual(record.ticks, 2000)


class PhaseTest(unittest.TestCase):

    def test_phases_as_observe_takes_them(self):
        for thing in others(int) + [True, False, -1, 2, 10 ** 99]:
            told = error_of(BadPhase, Profile, WEB, Sampler(2, phase=None), phase=thing)
            self.assertIs(told["phase"], thing)
            if thing is not None:
                self.assertIs(error_of(BadPhase, Profile, WEB, Sampler(2), phase=thing)["phase"], thing)
                self.assertIs(error_of(BadPhase, Profile, WEB, Sampler(2, phase=1), phase=thing)["phase"], thing)
        self.assertEqual(error_of(BadPhase, Profile, WEB, Sampler(2), phase=1), {"phase": 1})
        self.assertEqual(error_of(BadPhase, Profile, WEB, Sampler(2, phase=1), phase=0), {"phase": 0})
        self.assertEqual(error_of(BadPhase, Profile, WEB, Sampler(2, phase=None)), {"phase": None})

    def test_phases_that_are_taken(self):
        for sampler, phase, right in [(Sampler(4), None, 0), (Sampler(4), 0, 0), (Sampler(4, phase=3), None, 3),
                                      (Sampler(4, phase=3), 3, 3), (Sampler(4, phase=None), 2, 2)]:
            profile = Profile(WEB, sampler, phase=phase)
            profile(profile.choices()[0])
            self.assertEqual(profile.run()[0], right)


class TicksTest(unittest.TestCase):

    def test_against_all_short_runs(self):
        for program, sampler in CASES:
            for run in all_runs(program, sampler, 6):
                phase, stays, looks = run
                path = path_by_words(program, sampler, *run)
                profile = Profile(program, sampler, phase=phase)
                right = record_by_words(program, sampler, *run)
                noted = dict(right[2])
                note = (show(program, sampler), run)
                self.assertEqual([profile(choice) for choice in path], [noted.get(tick) for tick in range(6)], note)
                self.assertEqual([profile.ticks, profile.path()], [6, path], note)
                self.assertEqual(attributes(profile.record()), right, note)
                self.assertEqual(profile.run(), run, note)
                self.assertEqual(attributes(observe(program, sampler, stays, looks, phase=phase)), right, note)

    def test_the_kinds_of_what_is_told(self):
        profile = made(WAY)
        self.assertEqual([type(part) for part in profile.run()], [int, list, list])
        self.assertIs(type(profile.run()), tuple)
        self.assertIs(type(profile.path()), list)
        record = profile.record()
        self.assertIs(type(record), Record)
        self.assertIs(type(record.waiting), bool)
        self.assertEqual(list(record.times), ["a", "b"])

    def test_before_the_first_tick(self):
        for sampler in (LATE, Sampler(3, phase=2)):
            profile = Profile(WEB, sampler)
            self.assertEqual([profile.ticks, profile.path()], [0, []])
            self.assertEqual(attributes(profile.record()), [0, {"a": 0, "b": 0}, [], False, 0])
            self.assertEqual(error_of(NoTicks, profile.run), {})

    def test_the_attribute_ticks_is_set_from_the_start(self):
        profile = Profile(WEB, LATE)
        self.assertIn("ticks", vars(profile))
        for tick, choice in enumerate(WAY):
            self.assertEqual(profile.ticks, tick)
            profile(choice)

    def test_a_look_that_has_not_come_due_is_none(self):
        self.assertEqual(made([("a", False)], sampler=Sampler(5, 4)).run(), (0, [("a", 1)], [None]))
        way = [("a", False), (None, False)]
        self.assertEqual(made(way, sampler=Sampler(3, phase=1)).run(), (1, [("a", 2)], [None]))

    def test_a_record_does_not_change_when_the_profile_goes_on(self):
        profile = Profile(WEB, LATE)
        told = []
        for choice in WAY:
            told.append((profile.record(), attributes(profile.record())))
            profile(choice)
        for record, before in told:
            self.assertEqual(attributes(record), before)

    def test_two_profiles_of_one_program_do_not_touch_each_other(self):
        one, two = made(WAY[:3]), made(WAY[:1])
        two(("b", True))
        self.assertEqual([one.path(), two.path()], [WAY[:3], WAY[:2]])


class BadChoiceTest(unittest.TestCase):

    def test_what_is_no_choice(self):
        for many in range(len(WAY)):
            profile = made(WAY[:many])
            before = shown(profile)
            right = profile.choices()
            wrong = others() + [("c", True), ("", True), (None, None), (None, "a"), ("a", True, True), ("a",), (True,)]
            for move, look in right:
                wrong += [(move, int(look)), [move, look], (move, look, None), (move,), (look, move), ((move, look),)]
                wrong += [(thing, look) for thing in others() if thing not in ("a", "b", None)]
                wrong += [(move, thing) for thing in others(bool)]
            wrong += [choice for choice in ((move, look) for move in (None, "a", "b") for look in (False, True))
                      if choice not in right]
            for thing in wrong:
                self.assertEqual(error_of(BadChoice, profile, thing), {"index": many}, thing)
                self.assertEqual(shown(profile), before)
            profile(WAY[many])
            self.assertEqual(profile.path(), WAY[:many + 1])

    def test_the_first_move(self):
        for choice in [("b", False), (None, False), (None, True)]:
            self.assertEqual(error_of(BadChoice, Profile(WEB, LATE), choice), {"index": 0})
        profile = Profile(program_of("a 1 1 open b, b 1 1 open a", start="b"), LATE)
        self.assertEqual(profile.choices(), [("b", False), ("b", True)])


class WatchTest(unittest.TestCase):

    def test_ticks_are_made_when_they_are_asked_for(self):
        profile = Profile(WEB, LATE)
        told = profile.watch(WAY)
        self.assertTrue(inspect.isgenerator(told))
        self.assertEqual(profile.ticks, 0)
        for tick in range(len(WAY)):
            self.assertEqual(next(told), (tick, NOTES[tick]))
            self.assertEqual(profile.ticks, tick + 1)
        self.assertEqual(list(told), [])

    def test_broken_off(self):
        profile = Profile(WEB, LATE)
        for tick, _ in profile.watch(WAY):
            if tick == 2:
                break
        self.assertEqual(profile.path(), WAY[:3])
        self.assertEqual(list(profile.watch(WAY[3:])), [(tick, NOTES[tick]) for tick in (3, 4, 5)])
        self.assertEqual(profile.path(), WAY)

    def test_a_choice_in_the_middle_that_is_not_possible(self):
        for wrong in (("c", True), None, (None, 1), ("a", False, 0)):
            profile = Profile(WEB, LATE)
            told = profile.watch(WAY[:3] + [wrong] + WAY[3:])
            self.assertEqual([next(told) for _ in range(3)], [(tick, NOTES[tick]) for tick in range(3)])
            self.assertEqual(error_of(BadChoice, next, told), {"index": 3})
            self.assertEqual(profile.path(), WAY[:3])
            self.assertEqual(list(told), [])
            self.assertEqual(list(profile.watch([])), [])
            profile(WAY[3])
            self.assertEqual(profile.path(), WAY[:4])

    def test_the_list_stays(self):
        way = list(WAY)
        self.assertEqual(list(Profile(WEB, LATE).watch(way)), list(enumerate(NOTES)))
        self.assertEqual(way, WAY)

    def test_more_than_2000_ticks(self):
        profile = Profile(program_of("a 1 1 open a"), Sampler(1))
        told = profile.watch([("a", True)] * 2001)
        self.assertEqual([next(told) for _ in range(2000)][-1], (1999, "a"))
        self.assertEqual(error_of(BadChoice, next, told), {"index": 2000})


class TrialTest(unittest.TestCase):

    def test_a_trial_goes_back(self):
        for many in range(len(WAY) + 1):
            for more in range(many, len(WAY) + 1):
                profile = made(WAY[:many])
                before = shown(profile)
                way = WAY[many:more]
                told = profile.trial(way)
                self.assertIs(type(told), Record)
                self.assertEqual(attributes(told), attributes(made(WAY[:more]).record()))
                self.assertEqual(shown(profile), before)
                self.assertEqual(way, WAY[many:more])
                for choice in WAY[many:]:
                    profile(choice)
                self.assertEqual(shown(profile), shown(made(WAY)))

    def test_a_choice_that_is_not_possible(self):
        for many in range(len(WAY)):
            for wrong in (("c", True), None, (None, 0)):
                profile = made(WAY[:many])
                before = shown(profile)
                self.assertEqual(error_of(BadChoice, profile.trial, WAY[many:-1] + [wrong]), {"index": 5})
                self.assertEqual(shown(profile), before)
                self.assertEqual(error_of(BadChoice, profile.trial, [wrong]), {"index": many})
                self.assertEqual(shown(profile), before)

    def test_the_record_of_a_trial_stays(self):
        profile = made(WAY[:3])
        told = profile.trial(WAY[3:])
        before = attributes(made(WAY).record())
        for choice in [("a", True), ("b", False)]:
            profile(choice)
        self.assertEqual(attributes(told), before)


class BlockTest(unittest.TestCase):

    def test_the_profile_is_as_it_was_behind_the_block(self):
        for many in range(len(WAY)):
            profile = made(WAY[:many])
            before = shown(profile)
            with profile as held:
                self.assertIs(held, profile)
                self.assertEqual(shown(profile), before)
                for choice in WAY[many:]:
                    profile(choice)
                self.assertEqual(profile.path(), WAY)
            self.assertEqual(shown(profile), before)

    def test_nested_blocks(self):
        profile = made(WAY[:1])
        befores = [shown(profile)]
        with profile:
            profile(WAY[1])
            befores.append(shown(profile))
            with profile:
                list(profile.watch(WAY[2:4]))
                befores.append(shown(profile))
                with profile as held:
                    profile(WAY[4])
                    profile.trial(WAY[5:])
                    self.assertEqual(held.path(), WAY[:5])
                self.assertEqual(shown(profile), befores[2])
                profile(WAY[4])
            self.assertEqual(shown(profile), befores[1])
            with profile:
                profile(("a", True))
            self.assertEqual(shown(profile), befores[1])
        self.assertEqual(shown(profile), befores[0])
        profile(WAY[1])
        self.assertEqual(shown(profile), befores[1])

    def test_a_block_that_ends_by_an_error(self):
        profile = made(WAY[:2])
        before = shown(profile)
        for many in (2, 3, 5):
            with self.assertRaises(KeyError):
                with profile:
                    list(profile.watch(WAY[2:many]))
                    raise KeyError("x")
            self.assertEqual(shown(profile), before)
            with self.assertRaises(BadChoice):
                with profile:
                    list(profile.watch(WAY[2:many] + [None]))
            self.assertEqual(shown(profile), before)

    def test_nested_blocks_that_end_by_an_error(self):
        profile = made(WAY[:2])
        before = shown(profile)
        with self.assertRaises(ZeroDivisionError):
            with profile:
                profile(WAY[2])
                with profile:
                    profile(WAY[3])
                    1 // 0
        self.assertEqual(shown(profile), before)
        with profile:
            profile(WAY[2])
            inner = shown(profile)
            with self.assertRaises(ZeroDivisionError):
                with profile:
                    profile(WAY[3])
                    1 // 0
            self.assertEqual(shown(profile), inner)
        self.assertEqual(shown(profile), before)

    def test_a_block_before_the_first_tick(self):
        profile = Profile(WEB, LATE)
        with profile:
            list(profile.watch(WAY))
        self.assertEqual(profile.ticks, 0)
        self.assertEqual(error_of(NoTicks, profile.run), {})
        self.assertEqual(profile.choices(), [("a", False), ("a", True)])


if __name__ == "__main__":
    unittest.main()
