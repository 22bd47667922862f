"""Points 2.2 to 2.5, and 0.5 and 0.6 as far as they speak of programs."""

import inspect
import unittest

from seenshares.errors import BadProgram, NoPlace
from seenshares.programs import Place, Program
from tests.objects import others

SIX = ["a", "b", "c", "d", "e", "f"]


def example():
    """A program of three places whose nexts are not in the order of the places."""
    places = [Place("b", 1, 2), Place("a", 2, let=False), Place("c", 3, 6)]
    return Program(places, {"c": (), "a": ("c", "b"), "b": ("a", "b")}, start="a")


def told(program):
    """Everything that a program tells."""
    places = [vars(program[name]) for name in program.names]
    return program.names, places, list(program.nexts.items()), program.start


class MakeTest(unittest.TestCase):

    def why(self, *given, **more):
        with self.assertRaises(BadProgram) as caught:
            Program(*given, **more)
        return caught.exception.why

    def test_a_list_and_a_tuple_of_places(self):
        places = [Place("a"), Place("b", 2)]
        nexts = {"a": ("b",), "b": ("a",)}
        for given in (places, tuple(places)):
            program = Program(given, nexts)
            self.assertEqual(program.names, ("a", "b"))
            self.assertEqual([program["a"].most, program["b"].most], [1, 2])

    def test_the_parameters(self):
        self.assertEqual(str(inspect.signature(Program)), "(places, nexts, *, start=None)")
        self.assertRaises(TypeError, Program, [Place("a")], {"a": ()}, "a")

    def test_one_to_six_places(self):
        for many in range(9):
            names = (SIX + ["g", "h"])[:many]
            places, nexts = [Place(name) for name in names], {name: () for name in names}
            if 1 <= many <= 6:
                self.assertEqual(Program(places, nexts).names, tuple(names))
            else:
                self.assertEqual(self.why(places, nexts), "places")
                self.assertEqual(self.why(tuple(places), nexts), "places")

    def test_places_of_other_forms(self):
        for thing in others():
            self.assertEqual(self.why(thing, {"a": ()}), "places", thing)
        for thing in others(Place):
            self.assertEqual(self.why([Place("a"), thing], {"a": ()}), "places", thing)
            self.assertEqual(self.why((thing, Place("a")), {"a": ()}), "places", thing)
        self.assertEqual(self.why({"a": Place("a")}, {"a": ()}), "places")
        self.assertEqual(self.why({"a": Place("a")}.values(), {"a": ()}), "places")

    def test_places_with_equal_names(self):
        self.assertEqual(self.why([Place("a"), Place("a", 2)], {"a": ()}), "places")
        self.assertEqual(self.why([Place("a"), Place("b"), Place("a", let=False)], {"a": (), "b": ()}), "places")

    def test_nexts_of_other_forms(self):
        places = [Place("a"), Place("b")]
        for thing in others():
            self.assertEqual(self.why(places, thing), "nexts", thing)
        for wrong in ({}, {"a": ()}, {"b": ()}, {"a": (), "b": (), "c": ()}, {"a": (), "c": ()},
                      {"a": (), "b": (), None: ()}, {"a": (), 1: ()}, {"a": (), ("b",): ()}, {"a": (), b"b": ()},
                      [("a", ()), ("b", ())]):
            self.assertEqual(self.why(places, wrong), "nexts", wrong)

    def test_values_of_nexts_of_other_forms(self):
        places = [Place("a"), Place("b")]
        for thing in others(tuple):
            self.assertEqual(self.why(places, {"a": thing, "b": ()}), "nexts", thing)
            self.assertEqual(self.why(places, {"a": (), "b": thing}), "nexts", thing)
        for thing in others(str) + ["", "c", "A", "ab"]:
            self.assertEqual(self.why(places, {"a": ("b", thing), "b": ()}), "nexts", thing)
            self.assertEqual(self.why(places, {"a": (), "b": (thing,)}), "nexts", thing)
        for wrong in ("b", ["b"], ("b", "b"), ("a", "b", "a"), ("c",), {"b"}, {"b": 1}):
            self.assertEqual(self.why(places, {"a": wrong, "b": ()}), "nexts", wrong)

    def test_start(self):
        places, nexts = [Place("b"), Place("a")], {"a": (), "b": ()}
        self.assertEqual(Program(places, nexts).start, "b")
        self.assertEqual(Program(places, nexts, start=None).start, "b")
        self.assertEqual(Program(places, nexts, start="b").start, "b")
        self.assertEqual(Program(places, nexts, start="a").start, "a")
        for thing in others(str, type(None)) + ["", "c", "A", "ab"]:
            self.assertEqual(self.why(places, nexts, start=thing), "start", thing)

    def test_the_order_of_the_errors(self):
        good = [Place("a")]
        for places in ([], None, [1], [Place("a"), Place("a")]):
            for nexts in ({}, None, {"a": ["a"]}, {"a": ("b",)}):
                for start in ("b", 1, ["a"]):
                    self.assertEqual(self.why(places, nexts, start=start), "places")
                    self.assertEqual(self.why(places, {"a": ()}, start=start), "places")
                    self.assertEqual(self.why(places, nexts), "places")
                    self.assertEqual(self.why(good, nexts, start=start), "nexts")
                    self.assertEqual(self.why(good, {"a": ()}, start=start), "start")

    def test_own_nexts_and_no_nexts(self):
        program = Program([Place("a"), Place("b")], {"a": ("a", "b"), "b": ()})
        self.assertEqual(program.nexts, {"a": ("a", "b"), "b": ()})

    def test_the_arguments_stay_as_they_are(self):
        one, two = Place("a", 1, 3), Place("b", let=False)
        places, nexts = [one, two], {"b": ("a",), "a": ("b", "a")}
        Program(places, nexts, start="b").with_let(("b",))
        self.assertEqual([places[0] is one, places[1] is two, len(places)], [True, True, 2])
        self.assertEqual(list(nexts.items()), [("b", ("a",)), ("a", ("b", "a"))])
        self.assertEqual(vars(one), {"name": "a", "least": 1, "most": 3, "let": True})
        self.assertEqual(vars(two), {"name": "b", "least": 1, "most": 1, "let": False})
        self.why(places, nexts, start="c")
        self.assertEqual((len(places), list(nexts)), (2, ["b", "a"]))


class TellTest(unittest.TestCase):

    def test_look_up(self):
        program = example()
        self.assertIsInstance(program["a"], Place)
        self.assertEqual(vars(program["a"]), {"name": "a", "least": 2, "most": 2, "let": False})
        self.assertEqual(vars(program["b"]), {"name": "b", "least": 1, "most": 2, "let": True})
        self.assertEqual(vars(program["c"]), {"name": "c", "least": 3, "most": 6, "let": True})

    def test_look_up_of_what_is_no_name_of_a_place(self):
        program = example()
        for thing in others(str) + ["", "d", "A", "ab", "any", "a "]:
            with self.assertRaises(NoPlace) as caught:
                program[thing]
            self.assertIs(caught.exception.name, thing)

    def test_membership(self):
        program = example()
        for name in ("a", "b", "c"):
            self.assertIs(name in program, True)
        for thing in others(str) + ["", "d", "A", "ab", "any", "a "]:
            self.assertIs(thing in program, False)

    def test_len_names_nexts_and_start(self):
        program = example()
        self.assertEqual(len(program), 3)
        self.assertIs(type(program.names), tuple)
        self.assertEqual(program.names, ("b", "a", "c"))
        self.assertEqual(list(program.nexts.items()), [("b", ("a", "b")), ("a", ("c", "b")), ("c", ())])
        self.assertEqual(program.start, "a")
        self.assertEqual(len(Program([Place("z")], {"z": ()})), 1)

    def test_the_attributes_are_there(self):
        program = example()
        self.assertTrue(hasattr(program, "names") and hasattr(program, "nexts") and hasattr(program, "start"))

    def test_the_order_of_the_keys_means_nothing(self):
        places = [Place("a"), Place("b")]
        one = Program(places, {"a": ("b",), "b": ("a",)})
        other = Program(places, {"b": ("a",), "a": ("b",)})
        self.assertEqual(told(one), told(other))
        self.assertTrue(one == other)

    def test_changes_of_what_was_passed_change_nothing(self):
        places, nexts = [Place("a"), Place("b")], {"a": ("b",), "b": ()}
        program = Program(places, nexts)
        before = told(program)
        places.append(Place("c"))
        places[0] = Place("d")
        nexts["b"] = ("a",)
        nexts["c"] = ()
        del nexts["a"]
        self.assertEqual(told(program), before)
        self.assertEqual(told(program.with_let(("a", "b"))), before)

    def test_changes_of_what_was_told_change_nothing(self):
        program = example()
        before, other = told(program), example()
        nexts = program.nexts
        self.assertIsNot(program.nexts, nexts)
        nexts["b"] = ()
        nexts["d"] = ("a",)
        del nexts["c"]
        self.assertEqual(told(program), before)
        self.assertTrue(program == other)
        program.nexts.clear()
        self.assertEqual(told(program), before)
        self.assertEqual(program.with_let(("b", "c")).nexts, other.nexts)

    def test_a_copy_does_not_share_its_nexts(self):
        program = example()
        program.with_let(()).nexts.clear()
        self.assertEqual(told(program), told(example()))


class WithLetTest(unittest.TestCase):

    def lets(self, program):
        return {name: program[name].let for name in program.names}

    def why(self, names):
        with self.assertRaises(BadProgram) as caught:
            example().with_let(names)
        return caught.exception.why

    def test_exactly_the_named_places_are_let(self):
        program = example()
        for names in (("a",), ("b", "c"), ("c", "b"), ("c", "a", "b"), ("b",)):
            told_lets = self.lets(program.with_let(names))
            self.assertEqual(told_lets, {name: name in names for name in "abc"})

    def test_an_empty_tuple_closes_all(self):
        self.assertEqual(self.lets(example().with_let(())), {"b": False, "a": False, "c": False})

    def test_all_else_is_the_same(self):
        other = example().with_let(("a",))
        self.assertIs(type(other), Program)
        self.assertEqual(other.names, ("b", "a", "c"))
        self.assertEqual(list(other.nexts.items()), [("b", ("a", "b")), ("a", ("c", "b")), ("c", ())])
        self.assertEqual(other.start, "a")
        self.assertEqual([(other[name].least, other[name].most) for name in other.names], [(1, 2), (2, 2), (3, 6)])

    def test_the_old_program_is_unchanged(self):
        program = example()
        new = program.with_let(("a",))
        self.assertIsNot(new, program)
        self.assertEqual(told(program), told(example()))
        self.assertTrue(program == example())
        self.assertFalse(program == new)
        same = program.with_let(("b", "c"))
        self.assertIsNot(same, program)
        self.assertTrue(program == same)

    def test_names_that_are_no_tuple(self):
        for thing in others(tuple):
            self.assertEqual(self.why(thing), "let", thing)
        self.assertEqual(self.why(["a"]), "let")

    def test_equal_items(self):
        for names in (("a", "a"), ("a", "b", "a"), (1, True), ([], []), ({}, 1, {}), (None, None), ("zz", "zz")):
            self.assertEqual(self.why(names), "let", names)
        for thing in others(float):
            # Nan is left out: it is not equal to itself.
            self.assertEqual(self.why((thing, "b", thing)), "let", thing)

    def test_equal_items_come_ahead_of_wrong_names(self):
        for names in (("zz", "a", "a"), (None, "b", "b"), ([1], "c", [1])):
            self.assertEqual(self.why(names), "let", names)

    def test_the_first_item_that_is_no_name_of_a_place(self):
        program = example()
        for thing in others(str) + ["", "d", "A", "ab"]:
            for names in ((thing,), ("a", thing), ("b", thing, "c"), (thing, "zz", 7.5)):
                with self.assertRaises(NoPlace) as caught:
                    program.with_let(names)
                self.assertIs(caught.exception.name, thing)
        self.assertEqual(told(program), told(example()))


class EqualityTest(unittest.TestCase):

    def test_equal_programs(self):
        self.assertTrue(example() == example())
        self.assertFalse(example() != example())
        one = Program([Place("a")], {"a": ("a",)})
        self.assertTrue(one == Program((Place("a", 1, 1, let=True),), {"a": ("a",)}, start="a"))

    def test_unequal_programs(self):
        places, nexts = [Place("a"), Place("b")], {"a": ("a", "b"), "b": ()}
        base = Program(places, nexts)
        unequal = [
            Program(places, nexts, start="b"),
            Program([places[1], places[0]], nexts, start="a"),
            Program(places, {"a": ("b", "a"), "b": ()}),
            Program(places, {"a": ("a", "b"), "b": ("a",)}),
            Program([Place("a", 1, 2), places[1]], nexts),
            Program([places[0], Place("b", let=False)], nexts),
            Program([Place("a"), Place("c")], {"a": ("a", "c"), "c": ()}),
            Program([*places, Place("c")], {**nexts, "c": ()}),
            Program([Place("a")], {"a": ("a",)}),
        ]
        for other in unequal:
            self.assertFalse(base == other)
            self.assertTrue(base != other)
            self.assertFalse(other == base)


if __name__ == "__main__":
    unittest.main()
