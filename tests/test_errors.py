"""Of point 26: the classes of refusals."""

import unittest

from farbooks.errors import BadRow, Misplaced, StoryError, TooMany, Twice, Uneven

FIVE = (BadRow, Misplaced, Twice, TooMany, Uneven)


class Errors(unittest.TestCase):

    def test_each_is_a_story_error_and_a_value_error(self):
        for kind in FIVE:
            self.assertTrue(issubclass(kind, StoryError), kind)
            self.assertTrue(issubclass(kind, ValueError), kind)
        self.assertTrue(issubclass(StoryError, ValueError))

    def test_none_is_taken_by_another_one(self):
        for one in FIVE:
            for other in FIVE:
                if one is not other:
                    self.assertFalse(issubclass(one, other), (one, other))

    def test_each_bears_its_place_and_words(self):
        for number, kind in enumerate((StoryError, *FIVE)):
            error = kind("some words", number + 7)
            self.assertEqual(error.place, number + 7)
            self.assertEqual(str(error), "some words")

    def test_each_is_made_by_words_and_place(self):
        for kind in (StoryError, *FIVE):
            self.assertEqual(kind(words="w", place=3).place, 3)
            with self.assertRaises(TypeError):
                kind("w")

    def test_each_is_raised_and_caught_as_itself(self):
        for kind in FIVE:
            with self.assertRaises(StoryError) as caught:
                raise kind("w", 12)
            self.assertIs(caught.exception.__class__, kind)
            self.assertEqual(caught.exception.place, 12)


if __name__ == "__main__":
    unittest.main()
