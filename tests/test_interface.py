"""The opening paragraph of the interface: names, parameters, defaults, and where each thing is defined."""

import inspect
import unittest

from tracerline import exact, polynomials
from tracerline.exact import Fraction, read_fraction
from tracerline.polynomials import Polynomial

FRACTION_METHODS = [
    "__init__", "__add__", "__radd__", "__sub__", "__rsub__", "__mul__", "__rmul__", "__neg__", "__abs__", "__bool__",
    "__eq__", "__ne__", "__lt__", "__le__", "__gt__", "__ge__", "__str__", "over",
]
POLYNOMIAL_METHODS = [
    "__init__", "__len__", "__getitem__", "__call__", "__add__", "__sub__", "__mul__", "__neg__", "__eq__", "__ne__",
    "degree", "coefficients", "scaled", "raised", "divided", "sum_over", "power",
]


def parameters(function):
    """The names of the parameters of a function, with the defaults where there are some."""
    found = []
    for parameter in inspect.signature(function).parameters.values():
        if parameter.default is inspect.Parameter.empty:
            found.append(parameter.name)
        else:
            found.append((parameter.name, parameter.default))
    return found


class Interface(unittest.TestCase):
    def test_each_thing_is_defined_in_its_file(self):
        for module, things in ((exact, [Fraction, read_fraction]), (polynomials, [Polynomial])):
            for thing in things:
                self.assertEqual(thing.__module__, module.__name__)
                self.assertIs(getattr(module, thing.__name__), thing)

    def test_each_method_stands_in_its_class(self):
        for name in FRACTION_METHODS:
            self.assertIn(name, vars(Fraction))
        for name in POLYNOMIAL_METHODS:
            self.assertIn(name, vars(Polynomial))

    def test_kinds_of_methods(self):
        self.assertIsInstance(vars(Polynomial)["degree"], property)
        self.assertIsInstance(vars(Polynomial)["power"], staticmethod)

    def test_parameters(self):
        expected = [
            (Fraction, ["top", ("bottom", 1)]),
            (Fraction(1).over, ["other"]),
            (read_fraction, ["text"]),
            (Polynomial, [("coefficients", ())]),
            (Polynomial().coefficients, []),
            (Polynomial().scaled, ["number"]),
            (Polynomial().raised, ["k"]),
            (Polynomial().divided, ["divisor"]),
            (Polynomial().sum_over, ["readings"]),
            (Polynomial.power, ["k"]),
            (Polynomial(), ["x"]),
        ]
        for function, names in expected:
            self.assertEqual(parameters(function), names)


if __name__ == "__main__":
    unittest.main()
