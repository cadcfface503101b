import unittest

from surecall.errors import NoProgram, NoRow, SureError


class ErrorsTest(unittest.TestCase):
    def test_what_each_stands_straight_under(self):
        self.assertEqual(SureError.__bases__, (ValueError,))
        self.assertEqual(NoProgram.__bases__, (SureError,))
        self.assertEqual(NoRow.__bases__, (SureError,))

    def test_none_stands_under_another(self):
        self.assertFalse(issubclass(NoProgram, NoRow))
        self.assertFalse(issubclass(NoRow, NoProgram))

    def test_no_program_is_made_with_a_text(self):
        self.assertEqual(str(NoProgram("no main")), "no main")

    def test_no_row_keeps_its_row(self):
        for row in (0, 7, 123456):
            self.assertEqual(NoRow(row).row, row)
        one, other = NoRow(1), NoRow(2)
        self.assertEqual((one.row, other.row), (1, 2))
        self.assertEqual(NoRow(row=4).row, 4)

    def test_they_are_taken_as_value_errors(self):
        for error in (SureError("x"), NoProgram("x"), NoRow(3)):
            with self.assertRaises(ValueError):
                raise error
            with self.assertRaises(SureError):
                raise error


if __name__ == "__main__":
    unittest.main()
