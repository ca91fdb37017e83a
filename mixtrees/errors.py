"""The errors that the package raises."""


class MixError(ValueError):
    """The base of all errors of the package."""


class InvalidTree(MixError):
    """A value is not a tree."""


class InvalidName(MixError):
    """A value is not the name of a feed of the tree, or names are not as they must be."""


class InvalidLengths(MixError):
    """A value is not the lengths of the feeds of the tree."""


class InvalidItem(MixError):
    """A value is not an item of the feeds."""


class InvalidNumber(MixError):
    """A value is not an integer, or it is outside of its limits."""


class InvalidSeen(MixError):
    """A value is not a tuple of seen names."""


class OtherFeeds(MixError):
    """Two trees do not have feeds with the same names."""


class UnknownFeed(MixError):
    """A mixer has no feed with this name."""


class TooMany(MixError):
    """A feed would have more items than it may have."""


class TooLong(MixError):
    """The period of a tree is too long."""


class NothingToUndo(MixError):
    """There is no call that can be taken back."""
