"""The error classes of the interface."""

import inspect
import unittest

from fairqueue import errors
from tests.support import BIG, ERRORS_WITH_THING, SOME, STRANGE, TWO, same

PARAMETERS = {name: "thing" for name in ERRORS_WITH_THING}
PARAMETERS["BadText"] = "at"
VALUES = STRANGE + (0, 7, TWO, SOME, BIG, [[1], {"a": (None, True)}])


class TestErrors(unittest.TestCase):
    def test_bases_are_those_stated(self):
        self.assertEqual(errors.FairError.__bases__, (Exception,))
        for name in PARAMETERS:
            with self.subTest(name):
                self.assertEqual(getattr(errors, name).__bases__, (errors.FairError,))

    def test_there_are_no_other_subclasses(self):
        names = [each.__name__ for each in errors.FairError.__subclasses__()]
        self.assertEqual(sorted(names), sorted(PARAMETERS))

    def test_the_parameter_has_its_name_and_no_default(self):
        for name, parameter in PARAMETERS.items():
            with self.subTest(name):
                found = inspect.signature(getattr(errors, name)).parameters
                self.assertEqual(list(found), [parameter])
                self.assertIs(found[parameter].default, inspect.Parameter.empty)
                self.assertEqual(found[parameter].kind, inspect.Parameter.POSITIONAL_OR_KEYWORD)

    def test_the_parameter_is_an_attribute_whatever_it_is(self):
        for name, parameter in PARAMETERS.items():
            for value in VALUES:
                with self.subTest(name=name, value=value):
                    by_position = getattr(errors, name)(value)
                    by_name = getattr(errors, name)(**{parameter: value})
                    self.assertIs(getattr(by_position, parameter), value)
                    self.assertIs(getattr(by_name, parameter), value)

    def test_a_value_is_kept_as_it_is(self):
        value = [1, {"a": [2]}]
        for name, parameter in PARAMETERS.items():
            error = getattr(errors, name)(value)
            self.assertTrue(same(getattr(error, parameter), [1, {"a": [2]}]))

    def test_two_errors_keep_their_own_values(self):
        for name, parameter in PARAMETERS.items():
            first, second = getattr(errors, name)(1), getattr(errors, name)(2)
            self.assertEqual((getattr(first, parameter), getattr(second, parameter)), (1, 2))

    def test_no_error_is_one_of_another_class(self):
        for name in PARAMETERS:
            error = getattr(errors, name)(3)
            for other in PARAMETERS:
                with self.subTest(name=name, other=other):
                    self.assertEqual(isinstance(error, getattr(errors, other)), name == other)

    def test_its_own_class_and_the_base_catch_it(self):
        for name, parameter in PARAMETERS.items():
            for catcher in (getattr(errors, name), errors.FairError, Exception):
                with self.subTest(name=name, catcher=catcher):
                    try:
                        raise getattr(errors, name)([4])
                    except catcher as error:
                        self.assertEqual(getattr(error, parameter), [4])

    def test_another_class_does_not_catch_it(self):
        for name in PARAMETERS:
            for other in PARAMETERS:
                if name == other:
                    continue
                raised = getattr(errors, name)(5)
                with self.subTest(name=name, other=other):
                    try:
                        raise raised
                    except getattr(errors, other):
                        self.fail(f"{other} caught {name}")
                    except errors.FairError as error:
                        self.assertIs(error, raised)

    def test_the_base_is_caught_by_no_subclass(self):
        for name in PARAMETERS:
            self.assertNotIsInstance(errors.FairError(), getattr(errors, name))

    def test_common_errors_of_python_do_not_catch_them(self):
        for name in PARAMETERS:
            error = getattr(errors, name)(6)
            self.assertNotIsInstance(error, (ValueError, TypeError, LookupError, ArithmeticError))


if __name__ == "__main__":
    unittest.main()
