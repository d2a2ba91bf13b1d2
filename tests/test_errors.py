import unittest

from cheaptree import errors

PLAIN = ("NoDeed", "Taken", "NoPlace", "NoTie", "NoTree", "NoBack", "NoLine")


def made(name):
    return errors.NoText(7) if name == "NoText" else getattr(errors, name)()


class ErrorsTest(unittest.TestCase):
    def test_tree_error_stands_straight_under_value_error(self):
        self.assertEqual(errors.TreeError.__bases__, (ValueError,))

    def test_each_stands_straight_under_tree_error(self):
        for name in PLAIN + ("NoText",):
            with self.subTest(name):
                self.assertEqual(getattr(errors, name).__bases__, (errors.TreeError,))

    def test_each_is_a_tree_error_and_a_value_error_and_of_no_other_class(self):
        names = PLAIN + ("NoText",)
        for name in names:
            error = made(name)
            self.assertIsInstance(error, errors.TreeError)
            self.assertIsInstance(error, ValueError)
            for other in names:
                with self.subTest(name, other=other):
                    self.assertIs(isinstance(error, getattr(errors, other)), name == other)

    def test_each_is_raised_and_taken(self):
        for name in PLAIN + ("NoText",):
            with self.subTest(name):
                with self.assertRaises(getattr(errors, name)):
                    raise made(name)
                with self.assertRaises(errors.TreeError):
                    raise made(name)

    def test_no_text_keeps_its_row(self):
        for row in (0, 1, 399, 10**30):
            self.assertEqual(errors.NoText(row).row, row)
            self.assertEqual(errors.NoText(row=row).row, row)
        first, second = errors.NoText(1), errors.NoText(2)
        self.assertEqual((first.row, second.row), (1, 2))

    def test_no_text_is_not_made_without_a_row(self):
        with self.assertRaises(TypeError):
            errors.NoText()
