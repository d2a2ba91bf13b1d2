"""The refusals: one class for each, all straight under TreeError."""


class TreeError(ValueError):
    """What is refused, of whatever sort."""


class NoDeed(TreeError):
    """What was handed in is no deed."""


class Taken(TreeError):
    """A place or a tie comes whose word is there already."""


class NoPlace(TreeError):
    """There is no such place."""


class NoTie(TreeError):
    """There is no such tie."""


class NoTree(TreeError):
    """There are not so many trees."""


class NoBack(TreeError):
    """There is no deed to go back of."""


class NoText(TreeError):
    """A text is none of a net; row is the number, from 0, of its first wrong row."""

    def __init__(self, row):
        self.row = row


class NoLine(TreeError):
    """What was said is no line that a desk knows."""
