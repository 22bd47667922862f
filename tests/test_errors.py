"""Points 0.4 and 16.1: the error classes, their base class and their attributes."""

import inspect
import unittest

from seenshares import errors
from seenshares.errors import SeenError
from tests.objects import others

ATTRIBUTES = {
    "BadShare": "part", "NoShare": None, "BadPlace": "why", "BadProgram": "why", "NoPlace": "name",
    "BadSampler": "why", "BadStay": "index", "BadPhase": "phase", "BadLook": "index", "NoTicks": None,
    "NoFocus": "index", "NoState": None, "TooMany": "limit", "NoKnot": "index", "NoCorner": "corner",
    "NoSide": None, "NoRow": "index", "NoWhat": "what", "NoBound": None, "NoSets": None, "NoLeast": None,
    "NoCounts": "name", "BadChoice": "index", "BadRun": "part", "BadText": "line",
}


class ErrorsTest(unittest.TestCase):

    def test_the_base_class_is_a_direct_subclass_of_value_error(self):
        self.assertEqual(SeenError.__bases__, (ValueError,))

    def test_there_are_twenty_five_classes_and_each_is_a_direct_subclass_of_the_base(self):
        self.assertEqual(len(ATTRIBUTES), 25)
        for name in ATTRIBUTES:
            self.assertEqual(getattr(errors, name).__bases__, (SeenError,), name)
            self.assertEqual(getattr(errors, name).__name__, name)

    def test_the_module_has_no_other_classes(self):
        names = [name for name, held in vars(errors).items() if inspect.isclass(held)]
        self.assertEqual(sorted(names), sorted([*ATTRIBUTES, "SeenError"]))

    def test_each_error_has_just_its_attribute(self):
        for name, attribute in ATTRIBUTES.items():
            if attribute is None:
                self.assertEqual(vars(getattr(errors, name)()), {}, name)
            else:
                self.assertEqual(vars(getattr(errors, name)(7)), {attribute: 7}, name)
                self.assertEqual(vars(getattr(errors, name)(**{attribute: 7})), {attribute: 7}, name)

    def test_an_attribute_is_the_very_object_that_was_passed(self):
        for name, attribute in ATTRIBUTES.items():
            if attribute is not None:
                for thing in others():
                    self.assertIs(getattr(getattr(errors, name)(thing), attribute), thing, name)

    def test_an_error_with_an_attribute_asks_for_it(self):
        for name, attribute in ATTRIBUTES.items():
            if attribute is not None:
                self.assertRaises(TypeError, getattr(errors, name))

    def test_each_error_is_caught_by_the_base_and_by_no_other_class(self):
        for name, attribute in ATTRIBUTES.items():
            error = getattr(errors, name)(*([] if attribute is None else [1]))
            self.assertIsInstance(error, SeenError)
            self.assertIsInstance(error, ValueError)
            caught = [other for other in ATTRIBUTES if isinstance(error, getattr(errors, other))]
            self.assertEqual(caught, [name])


if __name__ == "__main__":
    unittest.main()
