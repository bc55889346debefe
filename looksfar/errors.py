"""The errors that the package raises."""


class LookError(ValueError):
    """The base class of all errors of the package."""


class BadTask(LookError):
    """The value is not a task, or does not go with another task."""


class BadAlgorithm(LookError):
    """The value is not an algorithm for the task, or not one that will do."""


class BadNetwork(LookError):
    """The value is not a network, or does not fit what is asked of it."""


class BadReach(LookError):
    """A reach, or another number of steps, is not within its bounds."""


class BadEasing(LookError):
    """An easing, or a paper made of easings, is not right."""


class NoRows(LookError):
    """No row is allowed at any black input, so there are no sets of labels."""


class TooMany(LookError):
    """The answer, or what it takes to find it, would be too large."""


class BadText(LookError):
    """The text is wrong from the line with the number `place` on."""

    def __init__(self, place):
        self.place = place
