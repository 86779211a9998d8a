"""Hues on trees, put together from hues at each place."""

from tiehues.crossings import are_right, pair_hues
from tiehues.errors import NoHues, NoPlace
from tiehues.lines import least_free
from tiehues.nets import count_places, is_place, look_kind, ties_of_each


def ties_at(parents, place):
    return [tie for tie, parent in enumerate(parents) if place == parent or place == tie + 1]


def meeting_at(parents, rows, place):
    """The crossing at a place and the numbers of the ways there, told by the ties of each way."""
    ties = ties_at(parents, place)
    pairs = []
    numbers = []
    for number, row in enumerate(rows):
        met = [k for k, tie in enumerate(ties) if tie in row]
        if met:
            pairs.append((met[0], met[-1]))
            numbers.append(number)
    return ((len(ties), pairs), numbers)


def tree_rows(net, ways):
    """For each way on a tree the ties of it."""
    look_kind(net, "tree")
    return ties_of_each(net, ways)


def meetings(net, ways):
    """For each place the crossing there and the numbers of its ways."""
    rows = tree_rows(net, ways)
    return [meeting_at(net[1], rows, place) for place in range(count_places(net))]


def crossing_at(net, ways, place):
    """The crossing at a place, and the numbers of the ways there."""
    rows = tree_rows(net, ways)
    if not is_place(net, place):
        raise NoPlace("the tree has no such place")
    return meeting_at(net[1], rows, place)


def settle(hues, numbers, told):
    """Give the ways of a place their hues, told ones named anew so that those given already stay."""
    names = {}
    for number, hue in zip(numbers, told):
        if hues[number] is not None:
            names[hue] = hues[number]
    for number, hue in zip(numbers, told):
        # The least free one is less than the count of unlike hues here: none is greater than all told.
        if hue not in names:
            names[hue] = least_free(list(names.values()))
        hues[number] = names[hue]


def joined(many, met, lists):
    """Hues of so many ways, from right hues at each place."""
    hues = [None] * many
    # A place comes behind the one that it hangs on: the ways there with hues already are just those
    # on the tie between the two, and they differ both there and here.
    for (crossing, numbers), told in zip(met, lists):
        settle(hues, numbers, told)
    return hues


def tree_hues(net, ways):
    """Right hues less than half of three times the load, rounded down."""
    met = meetings(net, ways)
    return joined(len(ways), met, [pair_hues(many, pairs) for (many, pairs), numbers in met])


def look_lists(met, lists):
    """Refuse lists that are not right hues of the crossing at each place."""
    for place, told in enumerate(lists[:len(met)]):
        (many, pairs), numbers = met[place]
        if not are_right(pairs, told):
            raise NoHues(place)
    if len(lists) != len(met):
        raise NoHues(len(met))


def join_hues(net, ways, lists):
    """Right hues no greater than the greatest number in the lists, which are right hues at each place."""
    met = meetings(net, ways)
    look_lists(met, lists)
    return joined(len(ways), met, lists)
