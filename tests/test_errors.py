import unittest

from lookdown import errors
from tests.samples import strange_objects

FIELDS = {
    "BadBook": "part",
    "BadWeb": "index",
    "BadText": "line",
    "TooMany": "most",
    "BadChooser": "thing",
    "BadProgram": "part",
    "NoCode": "block",
}
PLAIN = (
    "NoWeb NoValue NoThing NoWay NoWishes NoPlan NoChoice NoFences NotBest NoInputs NoNumber NoBlock "
    "NoChoices NoWish NothingDone NoText NoLimits NoScript NoKind NotRunning"
).split()


class ErrorsTest(unittest.TestCase):
    def test_base_classes(self):
        self.assertEqual(errors.LookError.__bases__, (ValueError,))
        for name in [*FIELDS, *PLAIN]:
            self.assertEqual(getattr(errors, name).__bases__, (errors.LookError,), name)

    def test_no_other_classes(self):
        found = [name for name, each in vars(errors).items() if isinstance(each, type)]
        self.assertEqual(sorted(found), sorted(["LookError", *FIELDS, *PLAIN]))

    def test_defined_in_their_file(self):
        for name in ["LookError", *FIELDS, *PLAIN]:
            self.assertEqual(getattr(errors, name).__module__, "lookdown.errors")

    def test_fields_are_kept_as_passed(self):
        for name, field in FIELDS.items():
            for passed in [0, -1, "x", ("rule", 1), [1, [2]], {0: ()}, None, True, False, *strange_objects()]:
                error = getattr(errors, name)(passed)
                self.assertIs(getattr(error, field), passed)
                self.assertEqual(list(vars(error)), [field])

    def test_one_field_is_asked_for(self):
        for name in FIELDS:
            with self.assertRaises(TypeError):
                getattr(errors, name)()
            with self.assertRaises(TypeError):
                getattr(errors, name)(1, 2)

    def test_plain_errors_have_no_fields(self):
        for name in PLAIN:
            self.assertEqual(vars(getattr(errors, name)()), {})

    def test_raised_and_caught(self):
        for name in [*FIELDS, *PLAIN]:
            error_class = getattr(errors, name)
            made = error_class(5) if name in FIELDS else error_class()
            for caught_by in [error_class, errors.LookError, ValueError]:
                with self.assertRaises(caught_by) as caught:
                    raise made
                self.assertIs(caught.exception, made)

    def test_not_caught_by_another(self):
        with self.assertRaises(errors.NoWeb):
            try:
                raise errors.NoWeb()
            except errors.NoValue:
                self.fail("caught by another class")


if __name__ == "__main__":
    unittest.main()
