"""The fewest hues on a line, all ways at once."""

from tiehues.nets import loads, look_kind, ties_of_each


def least_free(taken):
    hue = 0
    while hue in taken:
        hue += 1
    return hue


def swept_hues(lists):
    """Right hues less than the load, of ways on a line, told by the ties of each."""
    hues = [0] * len(lists)
    done = []
    # Taken by their first ties, all ways ahead that share a tie with this one lie on its
    # first tie, too: with it they are no more than the load, so a hue less than it is free.
    for at in sorted(range(len(lists)), key=lambda number: lists[number][0]):
        first = lists[at][0]
        hues[at] = least_free([hues[other] for other in done if first in lists[other]])
        done.append(at)
    return hues


def line_hues(net, ways):
    """Right hues less than the load, and a tie with the greatest load, None without ways."""
    look_kind(net, "line")
    hues = swept_hues(ties_of_each(net, ways))
    if not ways:
        return (hues, None)
    counts = loads(net, ways)
    return (hues, counts.index(max(counts)))
