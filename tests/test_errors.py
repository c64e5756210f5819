import unittest

from mendweights import errors

PLAIN = ["NoFraction", "NoPoint", "NoSide", "TooMany", "NotParted", "OneSide", "NoTable", "NoRow"]
NUMBERED = [("WrongBook", "place"), ("NoText", "line")]
NAMES = PLAIN + [name for name, value in NUMBERED]


def made(name):
    refusal = getattr(errors, name)
    return refusal(3) if name not in PLAIN else refusal("some words")


class Refusals(unittest.TestCase):
    def test_any_refusal_stands_straight_under_value_error(self):
        self.assertEqual(errors.MendError.__bases__, (ValueError,))

    def test_each_stands_straight_under_mend_error(self):
        for name in NAMES:
            with self.subTest(name=name):
                self.assertEqual(getattr(errors, name).__bases__, (errors.MendError,))

    def test_each_is_caught_as_itself_and_by_both_bases(self):
        for name in NAMES:
            for caught in (getattr(errors, name), errors.MendError, ValueError):
                with self.subTest(name=name, caught=caught):
                    with self.assertRaises(caught):
                        raise made(name)

    def test_each_is_of_no_other_refusals_class(self):
        for name in NAMES:
            for other in NAMES:
                with self.subTest(name=name, other=other):
                    self.assertEqual(isinstance(made(name), getattr(errors, other)), name == other)

    def test_a_plain_refusal_is_made_with_words_or_without(self):
        for name in PLAIN:
            with self.subTest(name=name):
                self.assertIsInstance(getattr(errors, name)(), errors.MendError)
                self.assertEqual(str(getattr(errors, name)("some words")), "some words")

    def test_the_number_is_there(self):
        for name, value in NUMBERED:
            for number in (0, 1, 29, 4999):
                with self.subTest(name=name, number=number):
                    error = getattr(errors, name)(number)
                    self.assertEqual(getattr(error, value), number)
                    self.assertIs(type(getattr(error, value)), int)

    def test_each_object_has_a_number_of_its_own(self):
        for name, value in NUMBERED:
            with self.subTest(name=name):
                first = getattr(errors, name)(4)
                second = getattr(errors, name)(5)
                self.assertEqual((getattr(first, value), getattr(second, value)), (4, 5))
                self.assertFalse(hasattr(getattr(errors, name), value))

    def test_the_number_is_there_when_it_is_caught_as_any_refusal(self):
        for name, value in NUMBERED:
            with self.subTest(name=name):
                with self.assertRaises(errors.MendError) as caught:
                    raise getattr(errors, name)(7)
                self.assertEqual(getattr(caught.exception, value), 7)


if __name__ == "__main__":
    unittest.main()
