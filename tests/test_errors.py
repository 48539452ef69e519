import inspect
import unittest

from tautcord import errors
from tautcord.errors import CordError, NoBead, NoCord, NoFraction, NoName, NoText, NoWorth

REFUSALS = (NoFraction, NoCord, NoWorth, NoBead, NoText, NoName)


class TestErrors(unittest.TestCase):
    def test_cord_error_stands_straight_under_value_error(self):
        self.assertEqual(CordError.__bases__, (ValueError,))

    def test_each_stands_straight_under_cord_error(self):
        for refusal in REFUSALS:
            with self.subTest(refusal.__name__):
                self.assertEqual(refusal.__bases__, (CordError,))

    def test_none_stands_under_another(self):
        for one in REFUSALS:
            for other in REFUSALS:
                with self.subTest(one=one.__name__, other=other.__name__):
                    self.assertEqual(issubclass(one, other), one is other)

    def test_each_bears_its_own_name(self):
        for refusal in REFUSALS + (CordError,):
            self.assertIs(getattr(errors, refusal.__name__), refusal)

    def test_each_is_raised_and_taken_as_any_refusal(self):
        for refusal in (NoFraction, NoWorth, NoBead, NoText, NoName):
            with self.subTest(refusal.__name__):
                with self.assertRaises(CordError):
                    raise refusal("refused")
                with self.assertRaises(ValueError):
                    raise refusal("refused")

    def test_no_cord_keeps_its_place(self):
        for place in (0, 1, 7, 24):
            with self.subTest(place=place):
                with self.assertRaises(NoCord) as caught:
                    raise NoCord(place)
                self.assertEqual(caught.exception.place, place)

    def test_no_cord_without_a_place_keeps_none(self):
        with self.assertRaises(CordError) as caught:
            raise NoCord(None)
        self.assertIsNone(caught.exception.place)

    def test_places_of_two_refusals_are_kept_apart(self):
        one = NoCord(3)
        other = NoCord(None)
        self.assertEqual(one.place, 3)
        self.assertIsNone(other.place)

    def test_no_cord_takes_its_place_by_name_and_needs_it(self):
        parameters = inspect.signature(NoCord.__init__).parameters
        self.assertEqual(list(parameters), ["self", "place"])
        self.assertIs(parameters["place"].default, inspect.Parameter.empty)
        with self.assertRaises(TypeError):
            NoCord()


if __name__ == "__main__":
    unittest.main()
