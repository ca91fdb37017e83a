"""Comparing trees: whether two trees mix their feeds alike, and lengths with which they do not."""

from mixtrees.endless import names_without_end, short_period
from mixtrees.errors import OtherFeeds
from mixtrees.mixing import mixed
from mixtrees.trees import names_in, plain, require_tree

# One more than the greatest weight, so that the first turn of a feed ends by its weight, not with its last item.
ITEMS_TO_COMPARE = 10


def same_always(one, other):
    """Whether two trees have the same feeds and the same output for all lengths of these feeds."""
    return plain(one) == plain(other)


def difference(one, other):
    """Lengths of at most three feeds with which the outputs of two trees differ, or None if there are none."""
    require_tree(one)
    require_tree(other)
    names = names_in(one)
    if sorted(names) != sorted(names_in(other)):
        raise OtherFeeds("the trees do not have feeds with the same names")
    # Two feeds tell their order and the weights with which they meet. If these agree for every two feeds, three feeds
    # tell which two of them meet first. Three feeds alone can hide a weight that two of them show.
    for chosen in choices(names, 2) + choices(names, 3):
        lengths = lengths_with(one, chosen)
        if mixed(one, lengths) != mixed(other, lengths_with(other, chosen)):
            return lengths
    return None


def same_endless(one, other):
    """Whether two trees give the same endless row of names."""
    require_tree(one)
    require_tree(other)
    size = short_period(one)
    if short_period(other) != size:
        return False
    return names_without_end(one, size) == names_without_end(other, size)


def choices(names, many):
    """All lists of so many of these names, each in their order."""
    if many == 0:
        return [[]]
    found = []
    for at, name in enumerate(names):
        found.extend([[name, *others] for others in choices(names[at + 1:], many - 1)])
    return found


def lengths_with(tree, chosen):
    """The lengths of the feeds of a tree if only the chosen ones have items."""
    return tuple([ITEMS_TO_COMPARE if name in chosen else 0 for name in names_in(tree)])
