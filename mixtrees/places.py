"""Places: where an item is in the output, and which items its beginning has, without mixing the feeds."""

from mixtrees.errors import InvalidItem, InvalidNumber
from mixtrees.mixing import require_lengths
from mixtrees.trees import is_whole, names_in, require_tree


def place_of(tree, lengths, item):
    """The place of an item in the output, 0 for the first one."""
    require_tree(tree)
    require_lengths(tree, lengths)
    require_item(tree, lengths, item)
    name, index = item
    return place_in(tree, lengths_by_name(tree, lengths), name, index)


def item_at(tree, lengths, place):
    """The item at a place of the output."""
    require_tree(tree)
    require_lengths(tree, lengths)
    if not is_whole(place, 0, sum(lengths) - 1):
        raise InvalidNumber("there is no item at this place")
    by_name = lengths_by_name(tree, lengths)
    before = counts_of_feeds(tree, by_name, place)
    after = counts_of_feeds(tree, by_name, place + 1)
    # The item is the one by which the longer beginning has more.
    added = [(name, low) for name, low, high in zip(names_in(tree), before, after) if low < high]
    return added[0]


def is_before(tree, lengths, item, other):
    """Whether an item is before another one in the output."""
    return place_of(tree, lengths, item) < place_of(tree, lengths, other)


def counts_in(tree, lengths, many):
    """The list with the number of items of each feed among the first items of the output."""
    require_tree(tree)
    require_lengths(tree, lengths)
    if not is_whole(many, 0, sum(lengths)):
        raise InvalidNumber("many must be an integer from 0 to the number of items")
    return counts_of_feeds(tree, lengths_by_name(tree, lengths), many)


def when_all(tree, lengths):
    """The smallest number of first items that contain an item of each feed that has items."""
    require_tree(tree)
    require_lengths(tree, lengths)
    names = [name for name, length in zip(names_in(tree), lengths) if length > 0]
    return max([place_of(tree, lengths, (name, 0)) + 1 for name in names], default=0)


def require_item(tree, lengths, value):
    """Raises InvalidItem if a value is not an item of the feeds of a tree with these lengths."""
    if not isinstance(value, tuple) or len(value) != 2:
        raise InvalidItem("an item must be a pair of a name and an index")
    name, index = value
    names = names_in(tree)
    if name not in names:
        raise InvalidItem("the tree has no feed with the name in this item")
    if not is_whole(index, 0, lengths[names.index(name)] - 1):
        raise InvalidItem("the feed has no item with this index")


def lengths_by_name(tree, lengths):
    """The lengths as a dict by the names of the feeds."""
    return dict(zip(names_in(tree), lengths))


def part_with(mixer, name):
    """The number of the part of a mixer that contains the feed with this name."""
    return [name in names_in(part) for weight, part in mixer].index(True)


def total_in(tree, lengths):
    """How many items all feeds of a tree have; the lengths are a dict by the names of the feeds."""
    return sum([lengths[name] for name in names_in(tree)])


def place_in(tree, lengths, name, index):
    """The place of an item in the output of a tree; the lengths are a dict by the names of the feeds."""
    if isinstance(tree, str):
        return index
    own = part_with(tree, name)
    own_weight, own_part = tree[own]
    place = place_in(own_part, lengths, name, index)
    rounds = place // own_weight
    # The parts further left have had their turn in the round of the item, those further right have not.
    left = taken_in_rounds(turns_of(tree[:own], lengths), rounds + 1)
    right = taken_in_rounds(turns_of(tree[own + 1:], lengths), rounds)
    return place + sum(left) + sum(right)


def turns_of(parts, lengths):
    """For each part of a mixer the pair of its weight and the number of all its items."""
    return [(weight, total_in(part, lengths)) for weight, part in parts]


def taken_in_rounds(turns, rounds):
    """How many items so many whole rounds take from each part."""
    return [min(total, rounds * weight) for weight, total in turns]


def counts_of_feeds(tree, lengths, many):
    """How many of the first items of a tree each feed gives; the lengths are a dict by the names of the feeds."""
    if isinstance(tree, str):
        return [many]
    counts = []
    for (weight, part), count in zip(tree, counts_of_parts(turns_of(tree, lengths), many)):
        counts.extend(counts_of_feeds(part, lengths, count))
    return counts


def counts_of_parts(turns, many):
    """How many of the first items of a mixer each part gives."""
    rounds = whole_rounds(turns, many)
    whole = taken_in_rounds(turns, rounds)
    more = taken_in_rounds(turns, rounds + 1)
    rest = many - sum(whole)
    counts = []
    for low, high in zip(whole, more):
        in_turn = min(rest, high - low)
        counts.append(low + in_turn)
        rest -= in_turn
    return counts


def whole_rounds(turns, many):
    """The greatest number of rounds, up to many, that take no more than so many items from a mixer."""
    low = 0
    high = many
    # Halving, since there may be far too many rounds to go through them.
    while low < high:
        middle = (low + high + 1) // 2
        if sum(taken_in_rounds(turns, middle)) <= many:
            low = middle
        else:
            high = middle - 1
    return low
