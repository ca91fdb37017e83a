"""Mixing: the items of the feeds of a tree in the order in which they are taken."""

from mixtrees.errors import InvalidLengths, InvalidNumber
from mixtrees.trees import feeds_of, is_whole, require_tree

GREATEST_LENGTH = 60
GREATEST_FIRST = 480


def mixed(tree, lengths, *, first=None):
    """The list of all items of the output, or of its first ones."""
    require_tree(tree)
    require_lengths(tree, lengths)
    if first is not None and not is_whole(first, 0, GREATEST_FIRST):
        raise InvalidNumber("first must be None or an integer from 0 to 480")
    return list(walk(tree, lengths))[:first]


def walk(tree, lengths):
    """Yields the items of the output one after another."""
    require_tree(tree)
    require_lengths(tree, lengths)
    source = source_of(tree, dict(zip(feeds_of(tree), lengths)))
    while source.has_more():
        yield source.take()


def require_lengths(tree, value):
    """Raises InvalidLengths if a value is not the lengths of the feeds of a tree."""
    if not isinstance(value, tuple) or len(value) != len(feeds_of(tree)):
        raise InvalidLengths("the lengths must be a tuple with one length for each feed")
    for length in value:
        if not is_whole(length, 0, GREATEST_LENGTH):
            raise InvalidLengths("a length must be an integer from 0 to 60")


def first_names(tree, lengths, many):
    """The names of the feeds from which the first items are taken, of which there must be so many.

    The lengths are a dict by the names of the feeds, and may be above 60.
    """
    source = source_of(tree, lengths)
    names = []
    for number in range(many):
        name, index = source.take()
        names.append(name)
    return names


class FeedSource:
    """A feed from which items are taken; the lengths are a dict by the names of the feeds."""

    def __init__(self, name, lengths):
        self.name = name
        # The dict itself, not the length in it, since its owner may make the feed longer meanwhile.
        self.lengths = lengths
        self.given = 0

    def has_more(self):
        """Whether the feed has items left."""
        return self.given < self.lengths[self.name]

    def take(self):
        """The next item of the feed, which is taken from it."""
        item = (self.name, self.given)
        self.given += 1
        return item

    def mark(self):
        """Where the feed is now, for go_back."""
        return self.given

    def go_back(self, mark):
        """Gives back all items that were taken since the feed was at this mark."""
        self.given = mark


class MixerSource:
    """A mixer from which items are taken: the part at which it is, and how many it has taken there in this turn."""

    def __init__(self, weights, parts):
        self.weights = weights
        self.parts = parts
        self.at = 0
        self.in_turn = 0

    def has_more(self):
        """Whether one of the parts has items left."""
        return any([part.has_more() for part in self.parts])

    def take(self):
        """The next item of the mixer, which is taken from it; there must be one."""
        # Only now, not after the item before, is it seen whether the part has items left.
        if self.in_turn == self.weights[self.at] or not self.parts[self.at].has_more():
            self.go_to_next_part()
        self.in_turn += 1
        return self.parts[self.at].take()

    def go_to_next_part(self):
        """Begins a turn at the next part that has items left, which may be the same one."""
        self.in_turn = 0
        self.at = (self.at + 1) % len(self.parts)
        while not self.parts[self.at].has_more():
            self.at = (self.at + 1) % len(self.parts)

    def mark(self):
        """Where the mixer and all its parts are now, for go_back."""
        return self.at, self.in_turn, [part.mark() for part in self.parts]

    def go_back(self, mark):
        """Gives back all items that were taken since the mixer and its parts were at this mark."""
        self.at, self.in_turn, marks = mark
        for part, inner in zip(self.parts, marks):
            part.go_back(inner)


def source_of(tree, lengths):
    """A feed or mixer of which nothing has been taken; the lengths are a dict by the names of the feeds."""
    if isinstance(tree, str):
        return FeedSource(tree, lengths)
    weights = [weight for weight, part in tree]
    return MixerSource(weights, [source_of(part, lengths) for weight, part in tree])
