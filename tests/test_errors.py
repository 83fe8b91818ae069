"""The interface's section glidequeue/errors.py."""

import unittest

from glidequeue import errors

WITHOUT_VALUES = ("NoFraction", "NoRate", "NoItem", "Full", "Moving", "NoMachine", "NoPlace", "NoLine")
WITH_AT = ("OffRails", "NoText")
ALL = WITHOUT_VALUES + WITH_AT + ("NoTape",)


class ErrorClasses(unittest.TestCase):

    def test_there_are_eleven(self):
        self.assertEqual(len({getattr(errors, name) for name in ALL}), 11)

    def test_glide_error_is_a_value_error(self):
        self.assertTrue(issubclass(errors.GlideError, ValueError))

    def test_each_is_under_glide_error(self):
        for name in ALL:
            with self.subTest(name):
                error = getattr(errors, name)
                self.assertTrue(issubclass(error, errors.GlideError))
                self.assertTrue(issubclass(error, ValueError))
                self.assertIsNot(error, errors.GlideError)
                self.assertEqual(error.__name__, name)

    def test_none_is_under_another_one(self):
        for name in ALL:
            for other in ALL:
                if name != other:
                    with self.subTest(name=name, other=other):
                        self.assertFalse(issubclass(getattr(errors, name), getattr(errors, other)))

    def test_those_without_values_are_raised_with_a_text_and_without(self):
        for name in WITHOUT_VALUES:
            error = getattr(errors, name)
            for made in (error(), error("why it is so")):
                with self.subTest(name), self.assertRaises(errors.GlideError) as caught:
                    raise made
                self.assertIs(caught.exception, made)


class ErrorValues(unittest.TestCase):

    def test_at_of_off_rails_and_no_text(self):
        for name in WITH_AT:
            error = getattr(errors, name)
            for at in (0, 1, 19, 20):
                with self.subTest(name=name, at=at):
                    self.assertEqual(error(at).at, at)

    def test_at_and_why_of_no_tape(self):
        for at in (0, 1, 300):
            for why in (1, 2, 3, 4):
                with self.subTest(at=at, why=why):
                    made = errors.NoTape(at, why)
                    self.assertEqual((made.at, made.why), (at, why))

    def test_values_are_still_there_when_caught(self):
        with self.assertRaises(ValueError) as caught:
            raise errors.NoTape(7, 4)
        self.assertEqual((caught.exception.at, caught.exception.why), (7, 4))
        for name in WITH_AT:
            with self.subTest(name), self.assertRaises(ValueError) as caught:
                raise getattr(errors, name)(5)
            self.assertEqual(caught.exception.at, 5)

    def test_two_objects_know_nothing_of_one_another(self):
        one, other = errors.OffRails(1), errors.OffRails(2)
        self.assertEqual((one.at, other.at), (1, 2))
        third, fourth = errors.NoTape(1, 2), errors.NoTape(3, 4)
        self.assertEqual((third.at, third.why, fourth.at, fourth.why), (1, 2, 3, 4))


if __name__ == "__main__":
    unittest.main()
