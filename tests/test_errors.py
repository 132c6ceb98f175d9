"""The errors of the interface."""

import unittest

from switchyard import errors, judgeerrors

ARGUMENTS = {
    "BadPart": ("part",),
    "BadWords": ("number",),
    "BadText": ("line", "column"),
    "BadLine": ("column",),
    "BadLaying": ("name",),
    "BadAlias": ("name",),
    "BadSetting": ("line",),
    "TooLarge": ("number",),
}


class Errors(unittest.TestCase):
    def test_switch_error_is_a_value_error(self):
        self.assertEqual(errors.SwitchError.__bases__, (ValueError,))

    def test_each_error_is_directly_below_switch_error(self):
        for name in ARGUMENTS:
            self.assertEqual(getattr(errors, name).__bases__, (errors.SwitchError,), name)

    def test_each_error_has_its_arguments_as_attributes(self):
        for name, arguments in ARGUMENTS.items():
            values = [f"value {argument}" for argument in arguments]
            by_position = getattr(errors, name)(*values)
            by_name = getattr(errors, name)(**dict(zip(arguments, values)))
            for argument, value in zip(arguments, values):
                self.assertEqual(getattr(by_position, argument), value, name)
                self.assertEqual(getattr(by_name, argument), value, name)

    def test_each_error_takes_just_its_arguments(self):
        for name, arguments in ARGUMENTS.items():
            with self.assertRaises(TypeError, msg=name):
                getattr(errors, name)(*(1 for _ in arguments), 1)
            with self.assertRaises(TypeError, msg=name):
                getattr(errors, name)(*(1 for _ in arguments[1:]))

    def test_equal_to_errors_of_the_same_class_with_equal_attributes_alone(self):
        for name, arguments in ARGUMENTS.items():
            made = getattr(errors, name)
            values = list(range(len(arguments)))
            self.assertTrue(made(*values) == made(*values), name)
            for at in range(len(values)):
                unlike = [*values[:at], 9, *values[at + 1:]]
                self.assertFalse(made(*values) == made(*unlike), name)
            for other in ARGUMENTS:
                if other != name and len(ARGUMENTS[other]) == len(arguments):
                    self.assertFalse(made(*values) == getattr(errors, other)(*values), (name, other))
            self.assertFalse(made(*values) == values[0], name)

    def test_the_errors_of_what_is_decided(self):
        for made, argument in [(judgeerrors.NotClear, "twice"), (judgeerrors.BadName, "name")]:
            self.assertEqual(made.__bases__, (errors.SwitchError,))
            self.assertEqual(made.__module__, "switchyard.judgeerrors")
            self.assertEqual(getattr(made("some"), argument), "some")
            self.assertEqual(getattr(made(**{argument: "some"}), argument), "some")
            self.assertTrue(made("some") == made("some"))
            self.assertFalse(made("some") == made("other"))
            self.assertFalse(made("some") == errors.BadPart("some"))
        self.assertFalse(judgeerrors.NotClear("some") == judgeerrors.BadName("some"))


if __name__ == "__main__":
    unittest.main()
