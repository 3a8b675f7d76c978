"""Point 5, and the interface's opening lines: the classes of the errors."""

import unittest

from shortdeeds import errors

OF_TEXTS = ("NoPuzzle", "NoStand", "NoWord", "NoNumber", "TooMany", "NoTable", "NoDeed", "NoLine")


class Errors(unittest.TestCase):

    def test_deed_error_stands_under_value_error(self):
        self.assertEqual(errors.DeedError.__bases__, (ValueError,))

    def test_each_class_stands_straight_under_deed_error(self):
        for name in OF_TEXTS + ("NoText",):
            self.assertEqual(getattr(errors, name).__bases__, (errors.DeedError,), name)

    def test_the_classes_are_different_ones(self):
        kinds = [getattr(errors, name) for name in OF_TEXTS + ("NoText", "DeedError")]
        self.assertEqual(len(set(kinds)), 10)

    def test_each_class_is_defined_in_its_file_under_its_name(self):
        for name in OF_TEXTS + ("NoText", "DeedError"):
            kind = getattr(errors, name)
            self.assertEqual((kind.__module__, kind.__name__), ("shortdeeds.errors", name))

    def test_made_of_a_text_each_is_raised_and_caught_as_deed_error_and_as_value_error(self):
        for name in OF_TEXTS + ("DeedError",):
            for caught in (errors.DeedError, ValueError):
                with self.assertRaises(caught) as held:
                    raise getattr(errors, name)("a text")
                self.assertIs(type(held.exception), getattr(errors, name))

    def test_no_text_keeps_what_it_is_made_of(self):
        for at in (0, 1, 2, 3, 7, 10 ** 29):
            with self.assertRaises(errors.DeedError) as held:
                raise errors.NoText(at)
            self.assertIs(type(held.exception), errors.NoText)
            self.assertEqual(held.exception.at, at)


if __name__ == "__main__":
    unittest.main()
