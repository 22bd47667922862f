"""Point 2.1, and 0.3 and 0.5 as far as they speak of places."""

import inspect
import unittest

from seenshares.errors import BadPlace
from seenshares.programs import Place
from tests.objects import others

BAD_NAMES = ["any", "closed", "end", "open", "to", "", "abcdefghi", "Ab", "aB", "a1", "1", "a b", " a", "a ",
             "a_b", "a-b", "a\n", "a`", "a{", "A"]
GOOD_NAMES = ["a", "z", "az", "abcdefgh", "zzzzzzzz", "anya", "ends", "opens", "too", "close"]


def four(place):
    """The four attributes of a place."""
    return place.name, place.least, place.most, place.let


class PlaceTest(unittest.TestCase):

    def why(self, *given, **more):
        with self.assertRaises(BadPlace) as caught:
            Place(*given, **more)
        return caught.exception.why

    def test_the_attributes(self):
        self.assertEqual(four(Place("web", 2, 5, let=False)), ("web", 2, 5, False))
        self.assertEqual(four(Place("db", 6, 6, let=True)), ("db", 6, 6, True))
        self.assertEqual(vars(Place("a", 1, 2)), {"name": "a", "least": 1, "most": 2, "let": True})

    def test_parameters_left_out(self):
        self.assertEqual(four(Place("a")), ("a", 1, 1, True))
        self.assertEqual(four(Place("a", 4)), ("a", 4, 4, True))
        self.assertEqual(four(Place("a", 4, None)), ("a", 4, 4, True))
        self.assertEqual(four(Place("a", most=3)), ("a", 1, 3, True))
        self.assertEqual(four(Place("a", let=False)), ("a", 1, 1, False))

    def test_the_parameters(self):
        self.assertEqual(str(inspect.signature(Place)), "(name, least=1, most=None, *, let=True)")
        self.assertRaises(TypeError, Place, "a", 1, 1, False)

    def test_every_pair_of_least_and_most(self):
        for least in range(-1, 9):
            for most in range(-1, 9):
                if not 1 <= least <= 6:
                    self.assertEqual(self.why("a", least, most), "least")
                elif not least <= most <= 6:
                    self.assertEqual(self.why("a", least, most), "most")
                else:
                    self.assertEqual(four(Place("a", least, most)), ("a", least, most, True))

    def test_names(self):
        for name in GOOD_NAMES:
            self.assertEqual(Place(name).name, name)
        for name in BAD_NAMES:
            self.assertEqual(self.why(name), "name", name)
        for thing in others(str):
            self.assertEqual(self.why(thing), "name", thing)

    def test_least_of_other_kinds(self):
        for thing in others(int):
            self.assertEqual(self.why("a", thing), "least", thing)
            self.assertEqual(self.why("a", thing, 6), "least", thing)
        for number in (0, 7, -1, -10 ** 99, 10 ** 99):
            self.assertEqual(self.why("a", number), "least")

    def test_most_of_other_kinds(self):
        for thing in others(int, type(None)):
            self.assertEqual(self.why("a", 1, thing), "most", thing)
        for number in (0, 7, -1, -10 ** 99, 10 ** 99):
            self.assertEqual(self.why("a", 1, number), "most")

    def test_let_of_other_kinds(self):
        for thing in others(bool):
            self.assertEqual(self.why("a", let=thing), "let", thing)

    def test_the_order_of_the_errors(self):
        for name in ("open", "", None):
            for least in (0, True):
                for most in (0, True, 9):
                    for let in (0, None):
                        self.assertEqual(self.why(name, least, most, let=let), "name")
                        self.assertEqual(self.why("a", least, most, let=let), "least")
                        self.assertEqual(self.why("a", 2, most, let=let), "most")
                        self.assertEqual(self.why("a", 2, 3, let=let), "let")
                        self.assertEqual(self.why(name, 2, most, let=True), "name")
                        self.assertEqual(self.why(name, 2, 3, let=let), "name")
                        self.assertEqual(self.why("a", least, 3, let=let), "least")

    def test_equality(self):
        base = Place("a", 2, 3, let=False)
        self.assertTrue(base == Place("a", 2, 3, let=False))
        self.assertFalse(base != Place("a", 2, 3, let=False))
        self.assertTrue(Place("a", 2) == Place("a", 2, 2, let=True))
        for other in (Place("b", 2, 3, let=False), Place("a", 1, 3, let=False), Place("a", 2, 4, let=False),
                      Place("a", 2, 3)):
            self.assertFalse(base == other)
            self.assertTrue(base != other)


if __name__ == "__main__":
    unittest.main()
