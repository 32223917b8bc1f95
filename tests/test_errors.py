"""[1.1] errors: the classes, what they stand under, and their fields."""

import inspect
import unittest

from goersay import errors

OF_TEXT = ["NoRest", "NoNumber", "NoRing", "NoOrder"]
OF_FIELDS = {
    "NoName": ["name"],
    "NoSighting": ["at"],
    "Clash": ["name", "one", "other"],
    "NoDeed": ["at"],
    "NoWatcher": ["name"],
    "NoLog": ["row"],
    "NoText": ["row"],
    "TooMany": ["most"],
}


class ErrorsTest(unittest.TestCase):
    def test_goer_error_is_right_under_value_error(self):
        self.assertEqual(errors.GoerError.__bases__, (ValueError,))
        self.assertEqual(str(errors.GoerError("why")), "why")

    def test_each_is_right_under_goer_error(self):
        for word in OF_TEXT + list(OF_FIELDS):
            with self.subTest(word):
                self.assertEqual(getattr(errors, word).__bases__, (errors.GoerError,))

    def test_there_are_no_others(self):
        found = [word for word, thing in vars(errors).items() if inspect.isclass(thing)]
        self.assertEqual(sorted(found), sorted(["GoerError"] + OF_TEXT + list(OF_FIELDS)))

    def test_each_is_defined_in_its_file(self):
        for word in ["GoerError"] + OF_TEXT + list(OF_FIELDS):
            self.assertEqual(getattr(errors, word).__module__, "goersay.errors")

    def test_those_of_a_text(self):
        for word in OF_TEXT:
            with self.subTest(word):
                error = getattr(errors, word)("some text")
                self.assertEqual(str(error), "some text")
                self.assertEqual(vars(error), {})

    def test_those_of_fields_have_just_these(self):
        for word, fields in OF_FIELDS.items():
            with self.subTest(word):
                told = dict(zip(fields, ["a", 3, 5] if word == "Clash" else [7]))
                self.assertEqual(vars(getattr(errors, word)(*told.values())), told)
                self.assertEqual(vars(getattr(errors, word)(**told)), told)

    def test_no_name_and_no_watcher_keep_the_thing_itself(self):
        for word in ("NoName", "NoWatcher"):
            for thing in (None, True, 0, "", "A", ["a"], ("a",), {"a": [1]}):
                with self.subTest(word, thing=thing):
                    self.assertIs(getattr(errors, word)(thing).name, thing)

    def test_they_are_caught_as_one_another_is_not(self):
        with self.assertRaises(errors.GoerError):
            raise errors.NoDeed(0)
        with self.assertRaises(ValueError):
            raise errors.TooMany(8)
        self.assertFalse(issubclass(errors.NoWatcher, errors.NoName))


if __name__ == "__main__":
    unittest.main()
