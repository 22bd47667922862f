"""The examples of the interface, for the modules that are there, and those of README.md."""

import doctest
import unittest
from pathlib import Path

from seenshares.errors import BadProgram, BadShare
from seenshares.programs import Place, Program
from seenshares.runs import observe
from seenshares.samplers import Sampler
from seenshares.shares import Share
from seenshares.states import first_states, reach, steps

README = Path(__file__).parent.parent / "README.md"


class SharesTest(unittest.TestCase):

    def test_a_sum(self):
        self.assertEqual(str(Share(1, 2) + Share(1, 3)), "5/6")

    def test_floors_and_a_quotient(self):
        self.assertEqual([Share(-7, 2).floor(), 3 // Share(2, 5), str(Share(3).over(6))], [-4, 7, "1/2"])

    def test_a_bottom_of_zero(self):
        with self.assertRaises(BadShare) as caught:
            Share(1, 0)
        self.assertEqual(vars(caught.exception), {"part": "bottom"})


class ProgramsTest(unittest.TestCase):

    def test_what_a_program_tells(self):
        web = Program([Place("a", 1, 2), Place("b", 2, let=False)], {"b": ("a",), "a": ("b",)})
        told = [web.names, web.start, web["b"].most, "c" in web, len(web), web.nexts]
        self.assertEqual(told, [("a", "b"), "a", 2, False, 2, {"a": ("b",), "b": ("a",)}])
        self.assertEqual(list(web.nexts), ["a", "b"])

    def test_wrong_nexts_come_ahead_of_a_wrong_start(self):
        with self.assertRaises(BadProgram) as caught:
            Program([Place("a")], {"a": ("b",)}, start="b")
        self.assertEqual(vars(caught.exception), {"why": "nexts"})


class SamplersTest(unittest.TestCase):

    def test_other_values(self):
        other = Sampler(5, 2, phase=None).with_values(jitter=4)
        self.assertEqual([other.period, other.jitter, other.phase], [5, 4, None])


class RunsTest(unittest.TestCase):

    def test_a_record(self):
        web = Program([Place("a", 1, 2), Place("b", 1, 2, let=False)], {"a": ("b",), "b": ("a",)})
        told = observe(web, Sampler(2), [("a", 1), ("b", 2), ("a", 1), ("b", 1)], [0, 0, 0])
        self.assertEqual([told.ticks, told.times, told.notes, told.waiting, told.lost],
                         [5, {"a": 2, "b": 3}, [(0, "a"), (3, "a")], True, 0])


class StatesTest(unittest.TestCase):

    def test_first_states_steps_and_reach(self):
        web = Program([Place("a"), Place("b", let=False)], {"a": ("b",), "b": ("a",)})
        told = [first_states(web, Sampler(3)), steps(web, Sampler(3), ("a", 1, 2, True, False)),
                reach(web, Sampler(3))]
        self.assertEqual(repr(told), "[[(('a', 1, 0, True, False), True)], [(('b', 1, 0, True, True), False)], 6]")


class ReadmeTest(unittest.TestCase):

    def test_the_examples_of_the_readme(self):
        told = doctest.testfile(str(README), module_relative=False)
        self.assertEqual(told.failed, 0)
        self.assertGreater(told.attempted, 0)


if __name__ == "__main__":
    unittest.main()
