"""The five error classes."""

import unittest

from gonetold import errors
from gonetold.errors import BadText, CanNot, NoPlace, TooMuch, Unfit


class ErrorsTest(unittest.TestCase):

    def test_each_is_directly_under_just_the_built_in_class(self):
        self.assertEqual(NoPlace.__bases__, (LookupError,))
        for own in (BadText, CanNot, TooMuch, Unfit):
            self.assertEqual(own.__bases__, (ValueError,), own)

    def test_each_is_defined_in_errors(self):
        for own in (NoPlace, BadText, CanNot, TooMuch, Unfit):
            self.assertEqual(own.__module__, "gonetold.errors")
            self.assertIs(getattr(errors, own.__name__), own)

    def test_no_place_keeps_its_place(self):
        for place in (0, -1, 3, 10 ** 30):
            self.assertEqual(NoPlace(place).place, place)
            self.assertEqual(NoPlace(place=place).place, place)

    def test_bad_text_keeps_its_line(self):
        for line in (1, 7, 10 ** 30):
            self.assertEqual(BadText(line).line, line)
            self.assertEqual(BadText(line=line).line, line)

    def test_what_is_kept_is_each_object_s_own(self):
        one, other = NoPlace(1), NoPlace(2)
        self.assertEqual((one.place, other.place), (1, 2))
        self.assertEqual(vars(one), {"place": 1})

    def test_the_constructors_take_just_these_values(self):
        for own in (NoPlace, BadText):
            with self.assertRaises(TypeError):
                own()
            with self.assertRaises(TypeError):
                own(1, 2)

    def test_the_others_keep_nothing(self):
        for own in (CanNot, TooMuch, Unfit):
            self.assertEqual(vars(own()), {})

    def test_each_can_be_raised_and_caught_by_its_built_in_class(self):
        for error, base in ((NoPlace(1), LookupError), (BadText(1), ValueError), (CanNot(), ValueError),
                            (TooMuch(), ValueError), (Unfit(), ValueError)):
            with self.assertRaises(base) as caught:
                raise error
            self.assertIs(caught.exception, error)

    def test_none_is_another_one(self):
        classes = (NoPlace, BadText, CanNot, TooMuch, Unfit)
        for one in classes:
            for other in classes:
                self.assertEqual(issubclass(one, other), one is other)


if __name__ == "__main__":
    unittest.main()
