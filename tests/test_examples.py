"""The examples of the interface, for the modules that are there, and those of README.md."""

import doctest
import unittest
from pathlib import Path

from seenshares.bounds import hidden, over, seen_range, under
from seenshares.counts import Counts
from seenshares.errors import BadProgram, BadShare, BadText, NoCounts
from seenshares.finite import certificate, excess
from seenshares.knots import knot_of, knots
from seenshares.live import Profile
from seenshares.papers import paper, paper_fault
from seenshares.polygons import polygon, sides
from seenshares.programs import Place, Program
from seenshares.rings import as_run, ring_fault
from seenshares.runs import observe
from seenshares.samplers import Sampler
from seenshares.settings import lets, periods_within
from seenshares.shares import Share
from seenshares.states import first_states, reach, steps
from seenshares.texts import read, read_run, write, write_run
from seenshares.told import can_be, sure_places, true_times, witness

README = Path(__file__).parent.parent / "README.md"

# The program and the sampler of the examples from polygons on.
PROGRAM = Program([Place("a"), Place("b", 1, 2)], {"a": ("b",), "b": ("a",)})
SAMPLER = Sampler(2)


class SharesTest(unittest.TestCase):

    def test_a_sum(self):
        self.assertEqual(str(Share(1, 2) + Share(1, 3)), "5/6")

    def test_floors_and_a_quotient(self):
        self.assertEqual([Share(-7, 2).floor(), 3 // Share(2, 5), str(Share(3).over(6))], [-4, 7, "1/2"])

    def test_a_bottom_of_zero(self):
        with self.assertRaises(BadShare) as caught:
            Share(1, 0)
        self.assertEqual(vars(caught.exception), {"part": "bottom"})


class ProgramsTest(unittest.TestCase):

    def test_what_a_program_tells(self):
        web = Program([Place("a", 1, 2), Place("b", 2, let=False)], {"b": ("a",), "a": ("b",)})
        told = [web.names, web.start, web["b"].most, "c" in web, len(web), web.nexts]
        self.assertEqual(told, [("a", "b"), "a", 2, False, 2, {"a": ("b",), "b": ("a",)}])
        self.assertEqual(list(web.nexts), ["a", "b"])

    def test_wrong_nexts_come_ahead_of_a_wrong_start(self):
        with self.assertRaises(BadProgram) as caught:
            Program([Place("a")], {"a": ("b",)}, start="b")
        self.assertEqual(vars(caught.exception), {"why": "nexts"})


class SamplersTest(unittest.TestCase):

    def test_other_values(self):
        other = Sampler(5, 2, phase=None).with_values(jitter=4)
        self.assertEqual([other.period, other.jitter, other.phase], [5, 4, None])


class RunsTest(unittest.TestCase):

    def test_a_record(self):
        web = Program([Place("a", 1, 2), Place("b", 1, 2, let=False)], {"a": ("b",), "b": ("a",)})
        told = observe(web, Sampler(2), [("a", 1), ("b", 2), ("a", 1), ("b", 1)], [0, 0, 0])
        self.assertEqual([told.ticks, told.times, told.notes, told.waiting, told.lost],
                         [5, {"a": 2, "b": 3}, [(0, "a"), (3, "a")], True, 0])


class StatesTest(unittest.TestCase):

    def test_first_states_steps_and_reach(self):
        web = Program([Place("a"), Place("b", let=False)], {"a": ("b",), "b": ("a",)})
        told = [first_states(web, Sampler(3)), steps(web, Sampler(3), ("a", 1, 2, True, False)),
                reach(web, Sampler(3))]
        self.assertEqual(repr(told), "[[(('a', 1, 0, True, False), True)], [(('b', 1, 0, True, True), False)], 6]")


class KnotsTest(unittest.TestCase):

    def test_knots_and_knot_of(self):
        web = Program([Place("a"), Place("b")], {"a": ("b",), "b": ("b",)})
        told = [knots(web, Sampler(1)), knot_of(web, Sampler(1), ("a", 1, 0, True, False))]
        self.assertEqual(repr(told), "[[[('b', 1, 0, True, False)]], None]")


class PolygonsTest(unittest.TestCase):

    def test_six_states_and_one_knot(self):
        self.assertEqual(reach(PROGRAM, SAMPLER), 6)
        self.assertEqual(len(knots(PROGRAM, SAMPLER)), 1)

    def test_the_corners(self):
        corners = polygon(PROGRAM, SAMPLER, ("a",), 0)
        self.assertEqual([str(part) for pair in corners for part in pair], ["1/3", "1/3", "1/2", "0", "1/2", "1"])

    def test_the_sides(self):
        rows = [(a, b, str(level)) for a, b, level in sides(polygon(PROGRAM, SAMPLER, ("a",), 0))]
        self.assertEqual(rows, [(-2, -1, "-1"), (1, 0, "1/2"), (-4, 1, "-1")])


class RingsTest(unittest.TestCase):

    def test_the_run_of_a_road(self):
        road = [("a", 1, 0, True, False), ("b", 1, 1, True, False), ("b", 2, 0, True, False)]
        self.assertEqual(as_run(PROGRAM, SAMPLER, road), (0, [("a", 1), ("b", 2)], [0, 0]))

    def test_a_ring_and_a_list_that_is_none(self):
        states = [("a", 1, 1, True, False), ("b", 1, 0, True, False)]
        self.assertIsNone(ring_fault(PROGRAM, SAMPLER, ("a",), states, (Share(1, 2), 0)))
        states = [("a", 1, 1, True, False), ("b", 2, 0, True, False)]
        self.assertEqual(ring_fault(PROGRAM, SAMPLER, ("a",), states, (Share(1, 2), 0)), ("state", 1))


class PapersTest(unittest.TestCase):

    def test_a_level(self):
        self.assertEqual(str(paper(PROGRAM, SAMPLER, ("a",), 0, -2, -1)[0]), "-1")

    def test_faults(self):
        prices = {("a", 1, 0, True, False): 3, ("b", 1, 1, True, False): 2, ("b", 2, 0, True, False): 1,
                  ("a", 1, 1, True, False): 2, ("b", 1, 0, True, False): 1, ("b", 2, 1, True, False): 0}
        self.assertIsNone(paper_fault(PROGRAM, SAMPLER, ("a",), 0, -2, -1, -1, prices))
        self.assertEqual(paper_fault(PROGRAM, SAMPLER, ("a",), 0, -2, -1, -2, prices),
                         ("step", ("a", 1, 0, True, False), ("b", 1, 1, True, False)))


class BoundsTest(unittest.TestCase):

    def test_hidden_over_and_under(self):
        self.assertEqual([str(call(PROGRAM, SAMPLER, ("a",))) for call in (hidden, over, under)], ["1/2"] * 3)

    def test_a_range(self):
        rows = seen_range(PROGRAM, SAMPLER, ("a",), Share(2, 5))
        self.assertEqual([len(rows), str(rows[0][0]), str(rows[0][1])], [1, "1/5", "3/5"])


class FiniteTest(unittest.TestCase):

    def test_excesses(self):
        told = [excess(PROGRAM, SAMPLER, ("a", "b"), "over"), excess(PROGRAM, SAMPLER, ("a", "b"), "under"),
                excess(PROGRAM, SAMPLER, ("a",), "over")]
        self.assertEqual(told, [("most", 1), ("most", 0), ("endless",)])

    def test_a_certificate(self):
        rows = certificate(PROGRAM, SAMPLER, ("a", "b"), "over")
        self.assertEqual([rows[("a", 1, 0, True, False)], rows[("a", 1, 1, True, False)]], [0, 1])


class ToldTest(unittest.TestCase):

    def test_true_times(self):
        told = [true_times(PROGRAM, SAMPLER, ("b",), ["a", "a"]),
                true_times(PROGRAM, SAMPLER, ("a",), ["a", "b"], ticks=3)]
        self.assertEqual(told, [(1, 2), (1, 1)])

    def test_a_witness(self):
        self.assertEqual(witness(PROGRAM, SAMPLER, ("b",), ["a", "a"], 2),
                         (0, [("a", 1), ("b", 1), ("a", 1), ("b", 1)], [0, 0]))

    def test_rows_that_can_be_and_sure_places(self):
        told = [can_be(PROGRAM, SAMPLER, ["b"]), sure_places(PROGRAM, SAMPLER, ["b"]),
                sure_places(PROGRAM, SAMPLER, ["a"])]
        self.assertEqual(told, [False, None, ["a"]])


class SettingsTest(unittest.TestCase):

    def test_periods(self):
        self.assertEqual(periods_within(PROGRAM, SAMPLER, ("a",), "hidden", Share(1, 3)), [1, 3])

    def test_sets(self):
        shut = Program([Place("a"), Place("b", let=False)], {"a": ("b",), "b": ("a",)})
        told = [lets(shut, Sampler(2), ("b",), "hidden", 0), lets(shut, Sampler(3), ("b",), "hidden", 0),
                lets(shut, Sampler(3), ("b",), "hidden", 1)]
        self.assertEqual(told, [[], [("b",)], [()]])


class CountsTest(unittest.TestCase):

    def test_a_product(self):
        counts = 2 * Counts("web", "db", "web")
        told = [counts["web"], counts["log"], counts.present(), counts.total(), str(counts.share(("db",)))]
        self.assertEqual(told, [4, 0, ["db", "web"], 6, "1/3"])

    def test_a_difference_below_0(self):
        with self.assertRaises(NoCounts) as caught:
            Counts("db") - Counts("web", "db", "db")
        self.assertEqual(vars(caught.exception), {"name": "db"})


class LiveTest(unittest.TestCase):

    def test_two_ticks(self):
        web = Program([Place("a", 1, 2), Place("b", 1, 2, let=False)], {"a": ("b",), "b": ("a",)})
        live = Profile(web, Sampler(2, 1))
        first = live(("a", False))
        second = live(("b", True))
        told = [first, second, live.choices(), live.record().waiting, live.run()]
        self.assertEqual(told, [None, None, [(None, False), (None, True), ("a", False), ("a", True)], True,
                                (0, [("a", 1), ("b", 1)], [1])])


class TextsTest(unittest.TestCase):

    def test_a_text(self):
        web = Program([Place("web", 1, 3), Place("db", 2, let=False)], {"web": ("db", "web"), "db": ()})
        self.assertEqual(write(web, Sampler(5, 1, phase=None)), "program start web\n  web open 1 3 to db web\n"
                         "  db closed 2 2 end\nsampler period 5 jitter 1 phase any")

    def test_a_wrong_text(self):
        with self.assertRaises(BadText) as caught:
            read("program start a\n  a open 1 1 end\n  a open 1 1 end")
        self.assertEqual(vars(caught.exception), {"line": 3})

    def test_texts_of_runs(self):
        told = [write_run(1, [("a", 2), ("b", 1)], [None, 0]), read_run("run phase 0\n  a 1\nlooks 0")]
        self.assertEqual(told, ["run phase 1\n  a 2\n  b 1\nlooks - 0", (0, [("a", 1)], [0])])


class ReadmeTest(unittest.TestCase):

    def test_the_examples_of_the_readme(self):
        told = doctest.testfile(str(README), module_relative=False)
        self.assertEqual(told.failed, 0)
        self.assertGreater(told.attempted, 0)


if __name__ == "__main__":
    unittest.main()
