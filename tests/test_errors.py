"""The interface, ownglass/errors.py."""

import unittest

from ownglass.errors import BadInputs, BadProgram, BadText, GlassError


class ErrorsTest(unittest.TestCase):
    def test_bad_text_keeps_its_place(self):
        for place in (0, 1, 7, 10 ** 30):
            self.assertEqual(BadText(place).place, place)

    def test_bad_program_keeps_its_function(self):
        for number in (0, 1, 7, 10 ** 30):
            self.assertEqual(BadProgram(number).function, number)

    def test_what_was_raised_keeps_its_number(self):
        with self.assertRaises(BadText) as caught:
            raise BadText(12)
        self.assertEqual(caught.exception.place, 12)
        with self.assertRaises(BadProgram) as caught:
            raise BadProgram(3)
        self.assertEqual(caught.exception.function, 3)

    def test_two_errors_keep_their_own_numbers(self):
        first, second = BadText(1), BadText(2)
        self.assertEqual((first.place, second.place), (1, 2))
        first, second = BadProgram(1), BadProgram(2)
        self.assertEqual((first.function, second.function), (1, 2))

    def test_each_is_a_glass_error_and_a_value_error(self):
        for error in (GlassError("x"), BadText(0), BadProgram(0), BadInputs("x")):
            self.assertIsInstance(error, GlassError)
            self.assertIsInstance(error, ValueError)

    def test_none_is_one_of_the_others(self):
        kinds = (BadText, BadProgram, BadInputs)
        for kind in kinds:
            for other in kinds:
                self.assertEqual(issubclass(kind, other), kind is other)

    def test_each_has_a_message(self):
        for error in (BadText(4), BadProgram(4), BadInputs("x")):
            self.assertTrue(str(error))


if __name__ == "__main__":
    unittest.main()
