import unittest

from threemoods import errors

PLAIN = ("BadState", "BadFolk", "BadNumber", "BadStreet", "BadOrder", "NotResting", "NotText")
TELLING = {"BadWeb": "index", "BadWalk": "index", "InvalidText": "word", "TooMany": "most"}


class ErrorsTest(unittest.TestCase):
    def test_all_are_mood_errors_and_value_errors(self):
        self.assertTrue(issubclass(errors.MoodError, ValueError))
        for name in (*PLAIN, *TELLING):
            with self.subTest(name):
                error = getattr(errors, name)
                self.assertTrue(issubclass(error, errors.MoodError))
                self.assertTrue(issubclass(error, ValueError))

    def test_none_derives_from_another(self):
        for name in (*PLAIN, *TELLING):
            for other in (*PLAIN, *TELLING):
                with self.subTest(name=name, other=other):
                    derives = issubclass(getattr(errors, name), getattr(errors, other))
                    self.assertEqual(name == other, derives)

    def test_all_are_defined_in_the_file_of_the_interface(self):
        for name in ("MoodError", *PLAIN, *TELLING):
            self.assertEqual("threemoods.errors", getattr(errors, name).__module__)

    def test_plain_errors_are_raised_and_caught(self):
        for name in PLAIN:
            with self.subTest(name):
                with self.assertRaises(errors.MoodError):
                    raise getattr(errors, name)()
                self.assertEqual("why", str(getattr(errors, name)("why")))

    def test_attributes_are_set_when_an_error_is_created(self):
        for name, attribute in TELLING.items():
            for value in (0, 1, 7, 20000):
                with self.subTest(name=name, value=value):
                    error = getattr(errors, name)(value)
                    self.assertEqual({attribute: value}, vars(error))
                    named = getattr(errors, name)(**{attribute: value})
                    self.assertEqual(value, getattr(named, attribute))

    def test_an_index_may_be_none(self):
        self.assertIsNone(errors.BadWeb(None).index)
        self.assertIsNone(errors.BadWalk(None).index)


if __name__ == "__main__":
    unittest.main()
