"""The errors that the functions of this package raise."""


class MoodError(ValueError):
    """What every error of this package is."""


class BadWeb(MoodError):
    """A value that is no web; index is that of the first wrong street, or None."""

    def __init__(self, index):
        super().__init__(f"this is no web, wrong street: {index}")
        self.index = index


class BadState(MoodError):
    """A value that is no state of the web, or no row of moods."""


class BadFolk(MoodError):
    """A value that is none of the folk of the web."""


class BadNumber(MoodError):
    """A value that is no integer within the limits."""


class BadWalk(MoodError):
    """A value that is no walk; index is that of the first wrong item, or None."""

    def __init__(self, index):
        super().__init__(f"this is no walk, wrong item: {index}")
        self.index = index


class BadStreet(MoodError):
    """A street that cannot be built, or that is not there."""


class BadOrder(MoodError):
    """A value that is no order of all the folk."""


class NotResting(MoodError):
    """A state that never comes to rest."""


class NotText(MoodError):
    """A value that is no text of the kind that is asked for."""


class InvalidText(MoodError):
    """A text that tells nothing; word is the number of its first wrong word."""

    def __init__(self, word):
        super().__init__(f"this text cannot be read, wrong word: {word}")
        self.word = word


class TooMany(MoodError):
    """More than can be worked with; most is how many can be."""

    def __init__(self, most):
        super().__init__(f"there may be at most {most}")
        self.most = most
