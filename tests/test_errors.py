import unittest

from allparts import errors
from allparts.errors import NoBook, NoNumber, NoRow, NoStand, NoTable, NoText, NoWord, PartError, TooMany

REFUSALS = (NoBook, NoText, TooMany, NoStand, NoTable, NoRow, NoWord, NoNumber)


class Errors(unittest.TestCase):
    def test_each_is_a_part_error_and_so_a_value_error(self):
        self.assertTrue(issubclass(PartError, ValueError))
        for refusal in REFUSALS:
            self.assertEqual(refusal.__bases__, (PartError,))
            self.assertIs(getattr(errors, refusal.__name__), refusal)

    def test_none_is_under_another_one(self):
        for one in REFUSALS:
            for other in REFUSALS:
                self.assertEqual(issubclass(one, other), one is other)

    def test_a_no_table_has_its_line(self):
        for line in (0, 1, 7, 300):
            with self.assertRaises(PartError) as caught:
                raise NoTable(line)
            self.assertEqual(caught.exception.line, line)
            self.assertIs(type(caught.exception.line), int)
