"""[2]: the errors."""

import unittest

from ledgertrace import errors
from ledgertrace.errors import TraceError

ATTRIBUTES = {
    "BadValue": "at", "BadProgram": "at", "BadRecord": "at", "BadPaper": "at", "BadLine": "at",
    "NothingThere": "name", "TooMany": "word", "Unlike": "name",
}


class Errors(unittest.TestCase):

    def test_the_base_class_stands_directly_under_exception(self):
        self.assertEqual(TraceError.__bases__, (Exception,))
        self.assertEqual(str(TraceError()), "")

    def test_each_class_stands_directly_under_the_base_alone(self):
        for name in ATTRIBUTES:
            self.assertEqual(getattr(errors, name).__bases__, (TraceError,), name)

    def test_there_are_just_these_classes(self):
        self.assertEqual({each.__name__ for each in TraceError.__subclasses__()}, set(ATTRIBUTES))

    def test_the_argument_is_kept_by_position_and_by_name(self):
        for name, attribute in ATTRIBUTES.items():
            made = getattr(errors, name)
            for value in (0, 3, "terms", "", None, ("a", [1])):
                for error in (made(value), made(**{attribute: value})):
                    self.assertEqual(vars(error), {attribute: value}, name)

    def test_one_argument_is_asked_for(self):
        for name in ATTRIBUTES:
            made = getattr(errors, name)
            self.assertRaises(TypeError, made)
            self.assertRaises(TypeError, made, 1, 2)

    def test_they_can_be_raised_and_caught_by_the_base(self):
        for name in ATTRIBUTES:
            made = getattr(errors, name)
            with self.assertRaises(TraceError) as caught:
                raise made(1)
            self.assertIs(type(caught.exception), made)


if __name__ == "__main__":
    unittest.main()
