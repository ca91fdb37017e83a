"""Mixers that are used step by step, while their feeds grow."""

from mixtrees.errors import InvalidNumber, NothingToUndo, TooMany, UnknownFeed
from mixtrees.mixing import source_of
from mixtrees.trees import fair, is_number, names_in, require_tree


class Mixer:
    """A mixer to whose feeds items are added, and from which items are taken, in any order."""

    LIMIT = 60

    def __init__(self, tree):
        require_tree(tree)
        self.shape = tree
        # How many items each feed has had, those included that have been taken.
        self.lengths = {name: 0 for name in names_in(tree)}
        # It shares the dict, so that its feeds have what is added.
        self.source = source_of(tree, self.lengths)
        self.output = []
        self.earlier = []

    @classmethod
    def fair(cls, *names):
        """A mixer of the feeds with these names in which all weights are 1."""
        return cls(fair(*names))

    @property
    def tree(self):
        """The tree."""
        return self.shape

    @property
    def left(self):
        """The number of items that have not been taken."""
        return sum([self.lengths[name] for name in self.lengths]) - len(self.output)

    def add(self, name, many=1):
        """Adds items at the end of a feed, and returns how many of its items have not been taken."""
        # Not by a look into the dict, since any value may be asked for.
        if name not in names_in(self.shape):
            raise UnknownFeed("there is no feed with this name")
        if not is_number(many) or many < 1:
            raise InvalidNumber("many must be an integer of at least 1")
        if self.lengths[name] + many > self.LIMIT:
            raise TooMany("a feed may have at most 60 items in all")
        self.keep_state()
        self.lengths[name] += many
        return self.lengths[name] - len([item for item in self.output if item[0] == name])

    def next(self):
        """The next item, which is taken, or None if no feed has items."""
        if not self.source.has_more():
            return None
        self.keep_state()
        item = self.source.take()
        self.output.append(item)
        return item

    def undo(self):
        """Takes back the last call that added items or took one."""
        if len(self.earlier) == 0:
            raise NothingToUndo("there is no call that can be taken back")
        lengths, mark, many = self.earlier.pop()
        self.lengths.update(lengths)
        self.source.go_back(mark)
        del self.output[many:]

    def taken(self):
        """The list of all items that have been taken and not been given back."""
        return list(self.output)

    def keep_state(self):
        """Keeps what undo needs to come back to how things are now."""
        self.earlier.append((dict(self.lengths), self.source.mark(), len(self.output)))

    def __len__(self):
        return len(self.output)

    def __eq__(self, other):
        return (isinstance(other, Mixer) and self.shape == other.shape
                and self.lengths == other.lengths and self.output == other.output)
