import unittest

from talejudge import errors

NAMES = ["NoDeed", "NoTale", "NoStrictness", "NoThing", "NoOrder", "NoHand", "NotPlain", "NoPlan", "NoDealings",
         "NoRow"]


class ErrorsTest(unittest.TestCase):
    def test_any_refusal_is_a_value_error(self):
        self.assertTrue(issubclass(errors.TaleError, ValueError))
        self.assertIsNot(errors.TaleError, ValueError)
        self.assertEqual(errors.TaleError.__name__, "TaleError")

    def test_each_stands_under_tale_error(self):
        for name in NAMES:
            with self.subTest(name):
                refusal = getattr(errors, name)
                self.assertEqual(refusal.__name__, name)
                self.assertTrue(issubclass(refusal, errors.TaleError))
                self.assertTrue(issubclass(refusal, ValueError))
                self.assertIsNot(refusal, errors.TaleError)

    def test_none_stands_under_another(self):
        for name in NAMES:
            for other in NAMES:
                if name != other:
                    with self.subTest(name=name, other=other):
                        self.assertFalse(issubclass(getattr(errors, name), getattr(errors, other)))

    def test_each_is_raised_and_taken_by_its_name(self):
        for name in NAMES:
            with self.subTest(name):
                refusal = getattr(errors, name)
                with self.assertRaises(refusal) as taken:
                    raise refusal("some words")
                self.assertEqual(str(taken.exception), "some words")


if __name__ == "__main__":
    unittest.main()
