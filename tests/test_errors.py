"""[4]: the classes of the errors, and what they keep."""

import unittest

from sceneskips import errors
from sceneskips.notes import Notes

WITH_TEXT = [
    "NoCommon", "InvalidScene", "InvalidAnswer", "PlayOver", "NoSkip", "NotExact", "TooWide",
    "TooMany", "InvalidText", "InvalidCommand", "NothingToUndo", "NoPlay",
]
WITH_FIELDS = ["InvalidStory", "InvalidBook", "WrongSkip"]


class ErrorsTest(unittest.TestCase):

    def test_scene_error_is_a_value_error(self):
        self.assertEqual(errors.SceneError.__bases__, (ValueError,))

    def test_every_class_stands_directly_under_scene_error(self):
        for name in WITH_TEXT + WITH_FIELDS:
            with self.subTest(name):
                self.assertEqual(getattr(errors, name).__bases__, (errors.SceneError,))
                self.assertEqual(getattr(errors, name).__module__, "sceneskips.errors")

    def test_text_is_kept(self):
        for name in ["SceneError"] + WITH_TEXT:
            for text in ["", "a text", "two\nlines"]:
                with self.subTest(name, text=text):
                    error = getattr(errors, name)(text)
                    self.assertEqual(str(error), text)
                    self.assertEqual(error.args, (text,))

    def test_fields_are_kept(self):
        for index in [None, 0, 7, 10 ** 40]:
            self.assertEqual(errors.InvalidStory(index).index, index)
        self.assertIs(errors.InvalidStory(None).index, None)
        for over in [True, False]:
            error = errors.InvalidBook(3, over)
            self.assertEqual(error.index, 3)
            self.assertIs(error.over, over)
        error = errors.WrongSkip("tea", Notes({"a": -2}))
        self.assertEqual(error.name, "tea")
        self.assertEqual(error.at, Notes({"a": -2}))

    def test_fields_belong_to_each_object(self):
        first = errors.InvalidBook(1, True)
        second = errors.InvalidBook(2, False)
        self.assertEqual((first.index, first.over), (1, True))
        self.assertEqual((second.index, second.over), (2, False))
        self.assertEqual(errors.InvalidStory(1).index, 1)
        self.assertEqual([e.name for e in [errors.WrongSkip("a", Notes()), errors.WrongSkip("b", Notes())]],
                         ["a", "b"])

    def test_errors_are_raised_and_caught_by_their_class(self):
        with self.assertRaises(errors.InvalidStory) as caught:
            raise errors.InvalidStory(4)
        self.assertEqual(caught.exception.index, 4)
        with self.assertRaises(errors.SceneError):
            raise errors.WrongSkip("tea", Notes())


if __name__ == "__main__":
    unittest.main()
