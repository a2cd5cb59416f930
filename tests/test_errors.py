"""Point 4: the error classes."""

import unittest

from tracerline import errors
from tracerline.errors import TracerError

ATTRIBUTES = {
    "BadFraction": [],
    "BadPolynomial": [],
    "BadReadings": [],
    "NothingLeft": [],
    "BadShare": ["share"],
    "BadTick": ["tick"],
    "BadRoom": ["room"],
    "BadWeb": ["reason"],
    "BadLine": ["place"],
    "BadForm": ["form"],
    "BadText": ["line", "column"],
    "BadName": ["name"],
    "TakenName": ["name"],
    "UnknownName": ["name"],
    "FullReader": ["most"],
    "Barred": ["tick", "weights"],
    "OutOfRange": ["least", "greatest"],
    "Misfit": ["tick"],
    "NoWeb": ["tick"],
}

ANY_VALUES = [
    (0, 1),
    (-7, 10 ** 5000),
    ("", "pond"),
    (None, True),
    ([], {}),
    ([[1], "x"], (2, object())),
    (ValueError("inner"), len),
]


def error_class(name):
    return getattr(errors, name)


class ErrorClasses(unittest.TestCase):
    def test_the_module_has_exactly_these_classes(self):
        found = {name for name, thing in vars(errors).items() if isinstance(thing, type)}
        self.assertEqual(found, set(ATTRIBUTES) | {"TracerError"})

    def test_base_class(self):
        self.assertEqual(TracerError.__bases__, (ValueError,))
        self.assertIsInstance(TracerError(), ValueError)

    def test_each_class_derives_directly_from_the_base_class(self):
        for name in ATTRIBUTES:
            self.assertEqual(error_class(name).__bases__, (TracerError,), name)

    def test_each_class_is_defined_in_the_module(self):
        for name in ATTRIBUTES:
            self.assertEqual(error_class(name).__module__, "tracerline.errors", name)

    def test_no_error_is_of_another_class_of_the_program(self):
        for name, attributes in ATTRIBUTES.items():
            error = error_class(name)(*range(len(attributes)))
            for other in ATTRIBUTES:
                self.assertEqual(isinstance(error, error_class(other)), name == other, (name, other))

    def test_classes_without_attributes_are_created_without_arguments(self):
        for name, attributes in ATTRIBUTES.items():
            if not attributes:
                error = error_class(name)()
                self.assertIsInstance(error, TracerError)
                self.assertEqual(vars(error), {})

    def test_values_by_position(self):
        for name, attributes in ATTRIBUTES.items():
            for values in ANY_VALUES:
                error = error_class(name)(*values[:len(attributes)])
                self.assertEqual(list(vars(error)), attributes, name)
                for attribute, value in zip(attributes, values):
                    self.assertIs(getattr(error, attribute), value, name)

    def test_values_by_name(self):
        for name, attributes in ATTRIBUTES.items():
            for values in ANY_VALUES:
                named = dict(zip(attributes, values))
                backwards = dict(reversed(list(named.items())))
                error = error_class(name)(**backwards)
                for attribute in attributes:
                    self.assertIs(getattr(error, attribute), named[attribute], name)

    def test_each_attribute_is_required(self):
        for name, attributes in ATTRIBUTES.items():
            if attributes:
                with self.assertRaises(TypeError):
                    error_class(name)(*range(len(attributes) - 1))
                with self.assertRaises(TypeError):
                    error_class(name)(*range(len(attributes) + 1))

    def test_a_raised_error_is_caught_by_its_class_and_by_both_base_classes(self):
        for name, attributes in ATTRIBUTES.items():
            for catcher in (error_class(name), TracerError, ValueError):
                error = error_class(name)(*range(len(attributes)))
                try:
                    raise error
                except catcher as caught:
                    self.assertIs(caught, error)
                    for value, attribute in enumerate(attributes):
                        self.assertEqual(getattr(caught, attribute), value)

    def test_a_raised_error_passes_the_handlers_of_other_classes(self):
        for name, attributes in ATTRIBUTES.items():
            others = tuple(error_class(other) for other in ATTRIBUTES if other != name)
            with self.assertRaises(error_class(name)):
                try:
                    raise error_class(name)(*range(len(attributes)))
                except others:
                    self.fail(name)


if __name__ == "__main__":
    unittest.main()
