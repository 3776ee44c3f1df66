"""The refusals of a story's text, each with the number of the row that is refused."""


class StoryError(ValueError):
    """A story that is refused at a place."""

    def __init__(self, words, place):
        ValueError.__init__(self, words)
        self.place = place


class BadRow(StoryError):
    """A row of no known form."""


class Misplaced(StoryError):
    """A row that stands where it can't."""


class Twice(StoryError):
    """A row that tells again what was told."""


class TooMany(StoryError):
    """A row that tells of one group or house too many."""


class Uneven(StoryError):
    """Rows that together don't keep each key just once."""
