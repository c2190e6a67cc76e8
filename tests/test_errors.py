import unittest

from keenlot import errors
from keenlot.errors import KeenError

PLAIN = [
    "InvalidLot", "InvalidRow", "InvalidNumber", "InvalidOption", "InvalidList", "InvalidDays",
    "InvalidEvents", "InvalidBook", "InvalidName", "TooLarge", "NothingToUndo",
]
FIELDS = {
    "InvalidPicks": ["index"],
    "MissingTool": ["tool"],
    "CannotDo": ["index", "lot", "day"],
    "Impossible": ["need"],
    "TooSharp": ["tool"],
    "UnknownName": ["name"],
    "DuplicateName": ["name"],
}
VALUES = [None, True, 0, -3, 10 ** 99, "", "abc", (), (3, (1, 2)), [], [[1], None]]


class ErrorsTest(unittest.TestCase):
    def test_bases(self):
        self.assertEqual(KeenError.__bases__, (ValueError,))
        for name in [*PLAIN, *FIELDS]:
            with self.subTest(name):
                self.assertEqual(getattr(errors, name).__bases__, (KeenError,))

    def test_no_further_errors(self):
        found = [name for name, value in vars(errors).items() if isinstance(value, type)]
        self.assertEqual(sorted(found), sorted(["KeenError", *PLAIN, *FIELDS]))

    def test_plain_errors_with_and_without_message(self):
        for name in ["KeenError", *PLAIN]:
            error = getattr(errors, name)
            for arguments in [(), ("",), ("a message",)]:
                with self.subTest(name, arguments=arguments):
                    with self.assertRaises(KeenError) as caught:
                        raise error(*arguments)
                    self.assertIs(type(caught.exception), error)

    def test_plain_errors_may_be_raised_as_classes(self):
        with self.assertRaises(ValueError):
            raise errors.NothingToUndo

    def test_fields_default_to_none(self):
        for name, fields in FIELDS.items():
            error = getattr(errors, name)()
            for field in fields:
                with self.subTest(name, field=field):
                    self.assertIsNone(getattr(error, field))

    def test_one_field_by_position_and_by_name(self):
        for name, fields in FIELDS.items():
            for value in VALUES:
                with self.subTest(name, value=value):
                    by_position = getattr(errors, name)(value)
                    by_name = getattr(errors, name)(**{fields[0]: value})
                    self.assertIs(getattr(by_position, fields[0]), value)
                    self.assertIs(getattr(by_name, fields[0]), value)

    def test_cannot_do_fields_in_order(self):
        error = errors.CannotDo(2, (3, 1), 4)
        self.assertEqual((error.index, error.lot, error.day), (2, (3, 1), 4))
        error = errors.CannotDo(day=4, lot=(3, 1), index=2)
        self.assertEqual((error.index, error.lot, error.day), (2, (3, 1), 4))
        error = errors.CannotDo(2, (3, 1))
        self.assertEqual((error.index, error.lot, error.day), (2, (3, 1), None))
        error = errors.CannotDo(2, day="x")
        self.assertEqual((error.index, error.lot, error.day), (2, None, "x"))
        error = errors.CannotDo(lot=[5])
        self.assertEqual((error.index, error.lot, error.day), (None, [5], None))

    def test_fields_of_objects_are_their_own(self):
        first, second = errors.MissingTool(3), errors.MissingTool(4)
        self.assertEqual((first.tool, second.tool), (3, 4))

    def test_errors_with_fields_can_be_raised_and_caught(self):
        for name, fields in FIELDS.items():
            with self.subTest(name):
                with self.assertRaises(KeenError) as caught:
                    raise getattr(errors, name)(**{field: 7 for field in fields})
                self.assertEqual([getattr(caught.exception, field) for field in fields], [7] * len(fields))


if __name__ == "__main__":
    unittest.main()
