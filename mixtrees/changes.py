"""Changes: how far one more item at the end of a feed pushes the items of other feeds back."""

from mixtrees.errors import InvalidItem, InvalidName, TooMany
from mixtrees.mixing import GREATEST_LENGTH, require_lengths
from mixtrees.places import part_with, place_of, require_item
from mixtrees.trees import names_in, require_name, require_tree


def push(tree, lengths, name, item):
    """By how many places an item moves back if another feed gets one more item at its end."""
    require_tree(tree)
    require_lengths(tree, lengths)
    require_name(tree, name)
    at = names_in(tree).index(name)
    if lengths[at] == GREATEST_LENGTH:
        raise TooMany("the feed has 60 items")
    require_item(tree, lengths, item)
    if item[0] == name:
        raise InvalidItem("the item must belong to another feed")
    longer = lengths[:at] + (lengths[at] + 1,) + lengths[at + 1:]
    return place_of(tree, longer, item) - place_of(tree, lengths, item)


def push_limit(tree, name, other):
    """A number that no push of an item of the other feed by the feed with this name is above."""
    require_tree(tree)
    require_name(tree, name)
    require_name(tree, other)
    if name == other:
        raise InvalidName("the names must be different")
    return limit_in(tree, name, other)


def limit_in(mixer, name, other):
    """The limit for two different feeds that are in a mixer, in the output of this mixer."""
    own = part_with(mixer, name)
    if part_with(mixer, other) != own:
        return 1
    in_round = sum([weight for weight, part in mixer])
    weight, part = mixer[own]
    inner = limit_in(part, name, other)
    rounds = (inner + weight - 1) // weight
    return inner + (in_round - weight) * rounds
