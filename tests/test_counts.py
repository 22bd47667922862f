"""Points 13.1 to 13.5, and 0.3 to 0.7 as far as they speak of counts."""

import inspect
import unittest
from collections import Counter
from itertools import product

from seenshares.counts import Counts, counts_of
from seenshares.errors import NoCounts, NoShare
from seenshares.runs import observe
from seenshares.samplers import Sampler
from seenshares.shares import Share
from tests.cases import CASES, error_of, program_of, short_runs
from tests.objects import others

NO_NAMES = ["", "A", "a1", "a b", "abcdefghi", "any", "closed", "end", "open", "to", "aB", "a\n", "-", "a_b"]
BIG = 10 ** 99


def shown(counts):
    """The present names with their numbers."""
    return {name: counts[name] for name in counts.present()}


def wrong_keys():
    """Objects that are no names."""
    return others(str) + NO_NAMES


def small_counts():
    """All counts of three names with numbers up to 2, as dicts and as objects."""
    for numbers in product(range(3), repeat=3):
        held = dict(zip("abc", numbers))
        counts = Counts()
        for name, number in held.items():
            counts[name] = number
        yield held, counts


class BuildTest(unittest.TestCase):

    def test_the_parameters(self):
        self.assertEqual(str(inspect.signature(Counts)), "(*names)")
        self.assertEqual(str(inspect.signature(counts_of)), "(record)")

    def test_names_that_are_passed_and_names_that_are_not(self):
        counts = Counts("web", "db", "web")
        self.assertEqual([counts["web"], counts["db"], counts["log"], counts["abcdefgh"]], [2, 1, 0, 0])
        self.assertEqual(shown(Counts()), {})
        self.assertEqual(Counts()["a"], 0)
        names = ["b", "a", "b", "c", "b", "zz", "a"] * 100
        self.assertEqual(shown(Counts(*names)), dict(Counter(names)))

    def test_the_first_bad_argument(self):
        for thing in wrong_keys():
            for names in ((thing,), ("a", thing), ("a", "b", thing, "c", None), (thing, "A")):
                self.assertIs(error_of(NoCounts, Counts, *names)["name"], thing)


class ItemsTest(unittest.TestCase):

    def test_reading_a_key_that_is_no_name(self):
        counts = Counts("a")
        for thing in wrong_keys():
            self.assertIs(error_of(NoCounts, lambda key: counts[key], thing)["name"], thing)
        self.assertEqual(shown(counts), {"a": 1})

    def test_setting(self):
        counts = Counts("a", "b")
        counts["a"] = 7
        counts["c"] = BIG
        counts["b"] = 0
        counts["d"] = 0
        self.assertEqual([counts[name] for name in "abcde"], [7, 0, BIG, 0, 0])
        self.assertEqual([counts.present(), len(counts), "b" in counts, "d" in counts], [["a", "c"], 2, False, False])
        counts["b"] = 2
        self.assertEqual(shown(counts), {"a": 7, "b": 2, "c": BIG})
        counts["a"] += 1
        self.assertEqual(counts["a"], 8)

    def test_setting_a_key_that_is_no_name(self):
        counts = Counts("a")
        for thing in wrong_keys():
            for number in (0, 1, -1, None, True, "x"):
                self.assertIs(error_of(NoCounts, counts.__setitem__, thing, number)["name"], thing)
        self.assertEqual(shown(counts), {"a": 1})

    def test_setting_a_number_that_is_none(self):
        counts = Counts("a", "a")
        for thing in others(int) + [True, False, -1, -BIG, Share(2)]:
            for name in ("a", "b"):
                self.assertEqual(error_of(NoCounts, counts.__setitem__, name, thing), {"name": name})
        self.assertEqual(shown(counts), {"a": 2})
        self.assertEqual(len(counts), 1)

    def test_counts_are_not_iterated_over(self):
        self.assertRaises(TypeError, list, Counts("a"))


class InPlaceTest(unittest.TestCase):

    def test_lists_tuples_and_counts(self):
        for more in (["b", "a", "b"], ("b", "a", "b"), Counts("b", "a", "b")):
            counts = same = Counts("a", "c")
            before = list(more) if isinstance(more, (list, tuple)) else shown(more)
            counts += more
            self.assertIs(counts, same)
            self.assertEqual(shown(counts), {"a": 2, "b": 2, "c": 1})
            self.assertEqual(list(more) if isinstance(more, (list, tuple)) else shown(more), before)
        for more in ([], (), Counts()):
            counts = same = Counts("a")
            counts += more
            self.assertIs(counts, same)
            self.assertEqual(shown(counts), {"a": 1})

    def test_counts_that_are_added_to_themselves(self):
        counts = Counts("a", "b", "a")
        counts += counts
        self.assertEqual(shown(counts), {"a": 4, "b": 2})

    def test_later_changes_have_no_effect(self):
        one, two, names = Counts("a"), Counts("b"), ["c"]
        one += two
        one += names
        two["b"] = 9
        names.append("d")
        self.assertEqual(shown(one), {"a": 1, "b": 1, "c": 1})
        one["b"] = 5
        self.assertEqual(shown(two), {"b": 9})

    def test_nothing_has_changed_behind_an_error(self):
        for thing in wrong_keys():
            for more in ([thing], ("a", thing), ["b", "a", thing, None, "c"], (thing, "A")):
                counts = Counts("a", "b")
                self.assertIs(error_of(NoCounts, counts.__iadd__, more)["name"], thing)
                self.assertEqual(shown(counts), {"a": 1, "b": 1})


class OperatorsTest(unittest.TestCase):

    def test_all_small_pairs(self):
        for held, one in small_counts():
            for other_held, other in small_counts():
                sums = {name: held[name] + other_held[name] for name in "abc"}
                self.assertEqual(shown(one + other), {name: sums[name] for name in "abc" if sums[name]})
                below = [name for name in "abc" if held[name] < other_held[name]]
                if below:
                    self.assertEqual(error_of(NoCounts, lambda x, y: x - y, one, other), {"name": below[0]})
                else:
                    told = {name: held[name] - other_held[name] for name in "abc" if held[name] > other_held[name]}
                    self.assertEqual(shown(one - other), told)
                    self.assertEqual(len(one - other), len(told))
                self.assertIs(one <= other, all(held[name] <= other_held[name] for name in "abc"))
                self.assertIs(one == other, held == other_held)
                self.assertIs(one != other, held != other_held)
                self.assertEqual([shown(one), shown(other)], [{name: held[name] for name in "abc" if held[name]},
                                                              {name: other_held[name] for name in "abc"
                                                               if other_held[name]}])

    def test_results_are_new(self):
        one, two = Counts("a", "b"), Counts("b")
        for made in (one + Counts(), one - Counts(), one * 1, 1 * one, Counts() + one):
            self.assertIs(type(made), Counts)
            self.assertIsNot(made, one)
            made["a"] = 7
            made += ["c"]
        self.assertEqual([shown(one), shown(two)], [{"a": 1, "b": 1}, {"b": 1}])

    def test_the_first_name_in_ascending_order(self):
        one, two = Counts("zz", "m"), Counts("z", "zz", "zz", "b", "ab", "ab", "m")
        self.assertEqual(error_of(NoCounts, lambda x, y: x - y, one, two), {"name": "ab"})
        two["ab"] = two["b"] = 0
        self.assertEqual(error_of(NoCounts, lambda x, y: x - y, one, two), {"name": "z"})
        two["z"] = 0
        self.assertEqual(error_of(NoCounts, lambda x, y: x - y, one, two), {"name": "zz"})
        self.assertEqual([shown(one), shown(two)], [{"m": 1, "zz": 1}, {"m": 1, "zz": 2}])

    def test_products(self):
        counts = Counts("a", "b", "a")
        for number in (0, 1, 2, 7, BIG):
            right = {name: value * number for name, value in (("a", 2), ("b", 1)) if number}
            for made in (counts * number, number * counts):
                self.assertEqual(shown(made), right)
                self.assertEqual([len(made), made.total()], [len(right), 3 * number])
        for number in (-1, -BIG):
            self.assertEqual(error_of(NoCounts, lambda n: counts * n, number), {"name": number})
            self.assertEqual(error_of(NoCounts, lambda n: n * counts, number), {"name": number})
            self.assertEqual(error_of(NoCounts, lambda n: n * Counts(), number), {"name": number})
        self.assertEqual(shown(counts), {"a": 2, "b": 1})

    def test_other_objects_are_not_equal(self):
        for thing in others(Counts) + [{"a": 1}, ["a"]]:
            self.assertIs(Counts("a") == thing, False)
            self.assertIs(Counts("a") != thing, True)
        self.assertIs(Counts() == Counts(), True)
        zeros = Counts("a")
        zeros["a"] = 0
        self.assertIs(zeros == Counts(), True)
        self.assertIs(zeros <= Counts(), True)


class TellingTest(unittest.TestCase):

    def test_in(self):
        counts = Counts("a", "bb")
        self.assertEqual([name in counts for name in ("a", "bb", "b", "c")], [True, True, False, False])
        for thing in wrong_keys():
            self.assertIs(thing in counts, False)

    def test_len_present_and_total(self):
        for held, counts in small_counts():
            self.assertEqual(len(counts), len([number for number in held.values() if number]))
            self.assertEqual(counts.present(), [name for name in "abc" if held[name]])
            self.assertEqual(counts.total(), sum(held.values()))
        counts = Counts("z", "b", "zz", "a", "b")
        self.assertEqual([counts.present(), len(counts), counts.total()], [["a", "b", "z", "zz"], 4, 5])
        counts.present().clear()
        self.assertEqual(counts.present(), ["a", "b", "z", "zz"])

    def test_share(self):
        counts = Counts("a", "b", "a", "c", "d", "d")
        rows = [((), "0"), ([], "0"), (("a",), "1/3"), (["a", "a"], "1/3"), (("b", "a", "b", "a"), "1/2"),
                (["d", "c", "b", "a"], "1"), (("zz",), "0"), (["zz", "d"], "1/3")]
        for names, right in rows:
            before = list(names)
            told = counts.share(names)
            self.assertEqual([type(told), str(told), list(names)], [Share, right, before])
        self.assertEqual(str((BIG * counts).share(("b",))), "1/6")

    def test_share_of_what_is_no_name_or_of_nothing(self):
        for counts in (Counts("a"), Counts()):
            for thing in wrong_keys():
                for names in ([thing], ("a", thing), ["a", "a", thing, None]):
                    self.assertIs(error_of(NoCounts, counts.share, names)["name"], thing)
        for names in ((), [], ("a",), ["b", "b"]):
            self.assertEqual(error_of(NoShare, Counts().share, names), {})

    def test_counts_of(self):
        web = program_of("a 1 2 open b, b 1 2 closed a")
        record = observe(web, Sampler(2), [("a", 1), ("b", 2), ("a", 1), ("b", 1)], [0, 0, 0])
        counts = counts_of(record)
        self.assertEqual([type(counts), shown(counts)], [Counts, {"a": 2}])
        counts += ["b"]
        self.assertEqual(record.notes, [(0, "a"), (3, "a")])
        self.assertEqual(shown(counts_of(record)), {"a": 2})
        for program, sampler in CASES[::11]:
            for (phase, stays, looks), told in short_runs(program, sampler, 5):
                record = observe(program, sampler, stays, looks, phase=phase)
                self.assertEqual(shown(counts_of(record)), dict(Counter(name for _, name in told[2])))


if __name__ == "__main__":
    unittest.main()
