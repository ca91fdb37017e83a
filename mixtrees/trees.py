"""Trees: what is one, how to make one, and what is left of one."""

from mixtrees.errors import InvalidName, InvalidTree

LONGEST_NAME = 6
MOST_PARTS = 5
GREATEST_WEIGHT = 9
MOST_FEEDS = 8
MOST_MIXERS_AROUND = 3


def is_tree(value):
    """Whether any value is a tree."""
    if not has_shape(value, 0):
        return False
    names = names_in(value)
    return len(names) <= MOST_FEEDS and len(set(names)) == len(names)


def feeds_of(tree):
    """The list of the names of all feeds, from left to right."""
    require_tree(tree)
    return names_in(tree)


def together(*parts):
    """The mixer with these pairs (weight, part) as its parts."""
    require_tree(parts)
    return parts


def fair(*names):
    """The mixer of the feeds with these names in which all weights are 1."""
    for name in names:
        # A mixer in place of a name could make a tree, too.
        if not isinstance(name, str):
            raise InvalidTree("the name of a feed must be a string")
    tree = tuple([(1, name) for name in names])
    require_tree(tree)
    return tree


def plain(tree):
    """The tree in which each mixer with only one part is replaced by this part."""
    require_tree(tree)
    return without_single_parts(tree)


def restricted(tree, names):
    """The plain tree that is left if all feeds but those with these names are left out."""
    require_tree(tree)
    require_names(tree, names)
    return without_single_parts(without_other_feeds(tree, names))


def is_number(value):
    """Whether any value is an integer."""
    return isinstance(value, int) and not isinstance(value, bool)


def is_whole(value, low, high):
    """Whether any value is an integer from low to high."""
    return is_number(value) and low <= value <= high


def require_tree(value):
    """Raises InvalidTree if a value is not a tree."""
    if not is_tree(value):
        raise InvalidTree("the value is not a tree")


def require_name(tree, value):
    """Raises InvalidName if a value is not the name of a feed of a tree."""
    if value not in names_in(tree):
        raise InvalidName("the tree has no feed with this name")


def require_names(tree, value):
    """Raises InvalidName if a value is not a tuple of one or more different names of feeds."""
    if not isinstance(value, tuple) or len(value) == 0:
        raise InvalidName("the names must be a tuple of one or more names")
    for name in value:
        require_name(tree, name)
    if len(set(value)) != len(value):
        raise InvalidName("the names must be different")


def has_shape(value, around):
    """Whether a value that lies in so many mixers is a tree, apart from how many feeds it has and their names."""
    if isinstance(value, str):
        return is_feed_name(value)
    # The depth is checked on the way down, since values that are no trees may be far too large to go through.
    if not isinstance(value, tuple) or around > MOST_MIXERS_AROUND:
        return False
    if not 1 <= len(value) <= MOST_PARTS:
        return False
    return all([is_weighted_part(pair, around) for pair in value])


def is_weighted_part(value, around):
    """Whether a value is a pair (weight, part) of a mixer that lies in so many others."""
    if not isinstance(value, tuple) or len(value) != 2:
        return False
    weight, part = value
    return is_whole(weight, 1, GREATEST_WEIGHT) and has_shape(part, around + 1)


def is_feed_name(text):
    """Whether a string can be the name of a feed."""
    return 1 <= len(text) <= LONGEST_NAME and all(["a" <= letter <= "z" for letter in text])


def names_in(tree):
    """The names of all feeds of a value that has the shape of a tree."""
    if isinstance(tree, str):
        return [tree]
    names = []
    for weight, part in tree:
        names.extend(names_in(part))
    return names


def without_single_parts(tree):
    """The tree in which each mixer with only one part is replaced by this part."""
    if isinstance(tree, str):
        return tree
    if len(tree) == 1:
        weight, part = tree[0]
        return without_single_parts(part)
    return tuple([(weight, without_single_parts(part)) for weight, part in tree])


def without_other_feeds(tree, names):
    """The tree without the feeds that have other names and without empty mixers, or None if nothing is left."""
    if isinstance(tree, str):
        return tree if tree in names else None
    parts = [(weight, without_other_feeds(part, names)) for weight, part in tree]
    left = tuple([(weight, part) for weight, part in parts if part is not None])
    return left if len(left) > 0 else None
