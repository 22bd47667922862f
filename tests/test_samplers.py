"""Points 3.1 and 3.3, and 0.5 and 0.6 as far as they speak of samplers."""

import inspect
import unittest

from seenshares.errors import BadSampler
from seenshares.samplers import Sampler
from tests.cases import error_of
from tests.objects import others


def why(call, *given, **more):
    """The part that BadSampler names."""
    return error_of(BadSampler, call, *given, **more)["why"]


class MakeTest(unittest.TestCase):

    def test_the_attributes(self):
        self.assertEqual(vars(Sampler(5, 2, phase=None)), {"period": 5, "jitter": 2, "phase": None})
        self.assertEqual(vars(Sampler(5, 2, phase=4)), {"period": 5, "jitter": 2, "phase": 4})
        self.assertEqual(vars(Sampler(phase=1, jitter=3, period=8)), {"period": 8, "jitter": 3, "phase": 1})

    def test_jitter_and_phase_left_out(self):
        self.assertEqual(vars(Sampler(3)), {"period": 3, "jitter": 0, "phase": 0})
        self.assertEqual(vars(Sampler(3, 2)), {"period": 3, "jitter": 2, "phase": 0})
        self.assertEqual(vars(Sampler(3, phase=2)), {"period": 3, "jitter": 0, "phase": 2})

    def test_the_parameters(self):
        self.assertEqual(str(inspect.signature(Sampler)), "(period, jitter=0, *, phase=0)")
        self.assertEqual(str(inspect.signature(Sampler.with_values)), "(self, *, period=-1, jitter=-1, phase=-1)")
        self.assertRaises(TypeError, Sampler, 3, 1, 1)

    def test_all_values_in_and_just_out_of_range(self):
        for period in range(-2, 11):
            for jitter in range(-2, 10):
                for phase in [None, *range(-2, 10)]:
                    if not 1 <= period <= 8:
                        self.assertEqual(why(Sampler, period, jitter, phase=phase), "period")
                    elif not 0 <= jitter < period:
                        self.assertEqual(why(Sampler, period, jitter, phase=phase), "jitter")
                    elif phase is not None and not 0 <= phase < period:
                        self.assertEqual(why(Sampler, period, jitter, phase=phase), "phase")
                    else:
                        made = vars(Sampler(period, jitter, phase=phase))
                        self.assertEqual(made, {"period": period, "jitter": jitter, "phase": phase})

    def test_other_kinds_in_each_place(self):
        for thing in others(int) + [True, False, 10 ** 99, -10 ** 99]:
            self.assertEqual(why(Sampler, thing), "period")
            self.assertEqual(why(Sampler, thing, thing, phase=thing), "period")
            self.assertEqual(why(Sampler, 4, thing), "jitter")
            if thing is not None:
                self.assertEqual(why(Sampler, 4, thing, phase=thing), "jitter")
                self.assertEqual(why(Sampler, 4, 1, phase=thing), "phase")


class EqualityTest(unittest.TestCase):

    def test_equal_samplers(self):
        self.assertTrue(Sampler(4) == Sampler(4, 0, phase=0))
        self.assertFalse(Sampler(4) != Sampler(4, 0, phase=0))
        self.assertTrue(Sampler(4, 2, phase=None) == Sampler(4, 2, phase=None))

    def test_unequal_samplers(self):
        base = Sampler(4, 1, phase=1)
        for other in (Sampler(5, 1, phase=1), Sampler(4, 2, phase=1), Sampler(4, 1), Sampler(4, 1, phase=None)):
            self.assertFalse(base == other)
            self.assertFalse(other == base)
            self.assertTrue(base != other)
        for thing in others():
            self.assertFalse(base == thing)


class WithValuesTest(unittest.TestCase):

    def test_what_is_left_out_or_minus_one_is_kept(self):
        for old in (Sampler(5, 2, phase=None), Sampler(5, 2, phase=3)):
            for same in (old.with_values(), old.with_values(period=-1, jitter=-1, phase=-1)):
                self.assertIs(type(same), Sampler)
                self.assertIsNot(same, old)
                self.assertTrue(same == old)

    def test_each_value_alone_and_all_together(self):
        old = Sampler(5, 2, phase=3)
        self.assertEqual(vars(old.with_values(period=4)), {"period": 4, "jitter": 2, "phase": 3})
        self.assertEqual(vars(old.with_values(jitter=0)), {"period": 5, "jitter": 0, "phase": 3})
        self.assertEqual(vars(old.with_values(phase=0)), {"period": 5, "jitter": 2, "phase": 0})
        self.assertEqual(vars(old.with_values(phase=None)), {"period": 5, "jitter": 2, "phase": None})
        made = old.with_values(period=8, jitter=7, phase=None)
        self.assertEqual(vars(made), {"period": 8, "jitter": 7, "phase": None})
        self.assertEqual(vars(made.with_values(phase=6, jitter=-1)), {"period": 8, "jitter": 7, "phase": 6})

    def test_it_refuses_what_a_sampler_refuses(self):
        old = Sampler(5, 2, phase=3)
        for thing in others(int) + [True, False, -2, 9, 10 ** 99]:
            self.assertEqual(why(old.with_values, period=thing), "period")
            self.assertEqual(why(old.with_values, period=thing, jitter=thing, phase=thing), "period")
            self.assertEqual(why(old.with_values, jitter=thing), "jitter")
            self.assertEqual(why(old.with_values, jitter=thing, phase=9), "jitter")
            if thing is not None:
                self.assertEqual(why(old.with_values, phase=thing), "phase")
        self.assertEqual(why(old.with_values, period=0), "period")
        self.assertEqual(why(old.with_values, period=2), "jitter")
        self.assertEqual(why(old.with_values, period=3), "phase")
        self.assertEqual(why(old.with_values, jitter=5), "jitter")
        self.assertEqual(why(old.with_values, phase=5), "phase")
        self.assertEqual(why(old.with_values, period=-1.0), "period")

    def test_the_old_sampler_stays(self):
        old = Sampler(5, 2, phase=None)
        old.with_values(period=7, jitter=6, phase=5)
        why(old.with_values, jitter=7)
        self.assertEqual(vars(old), {"period": 5, "jitter": 2, "phase": None})


if __name__ == "__main__":
    unittest.main()
