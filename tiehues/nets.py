"""Nets, the ties that ways lie on, and whether hues are right."""

from tiehues.errors import NoNet, NoWay, OtherNet, TooMany

LEAST_PLACES = {"line": 2, "ring": 3}
MOST_PLACES = 60
MOST_WAYS = 40


def is_whole(x):
    return isinstance(x, int) and not isinstance(x, bool)


def are_parents(parents):
    if not isinstance(parents, list) or not 1 <= len(parents) < MOST_PLACES:
        return False
    # Place k + 1 hangs on parents[k], so k is the greatest number that may stand there.
    return all(is_whole(parent) and 0 <= parent <= k for k, parent in enumerate(parents))


def is_net(net):
    kind, size = net
    if kind == "tree":
        return are_parents(size)
    return kind in LEAST_PLACES and is_whole(size) and LEAST_PLACES[kind] <= size <= MOST_PLACES


def look_net(net):
    """Refuse what is no net."""
    if not is_net(net):
        raise NoNet("no line, ring or tree of a size that is told")


def look_kind(net, kind):
    """Refuse what is no net, then a net of another kind."""
    look_net(net)
    if net[0] != kind:
        raise OtherNet(f"told for a {kind} only")


def count_places(net):
    kind, size = net
    return len(size) + 1 if kind == "tree" else size


def count_ties(net):
    return count_places(net) if net[0] == "ring" else count_places(net) - 1


def is_place(net, x):
    return is_whole(x) and 0 <= x < count_places(net)


def is_tie(net, x):
    return is_whole(x) and 0 <= x < count_ties(net)


def is_way(net, way):
    a, b = way
    return is_place(net, a) and is_place(net, b) and a != b


def ring_ties(many, a, b):
    return sorted([(a + step) % many for step in range((b - a) % many)])


def tree_ties(parents, a, b):
    ties = []
    # Parents have lesser numbers, so the greater end isn't above the lesser one:
    # one always goes by the tie over it.
    while a != b:
        low = max(a, b)
        ties.append(low - 1)
        a, b = min(a, b), parents[low - 1]
    return sorted(ties)


def way_ties(net, way):
    """The ties of a way, rising, of a net and a way that have been looked at."""
    kind, size = net
    a, b = way
    if kind == "tree":
        return tree_ties(size, a, b)
    if kind == "ring":
        return ring_ties(size, a, b)
    return list(range(min(a, b), max(a, b)))


def ties_of(net, way):
    """The ties of a way, rising."""
    look_net(net)
    if not is_way(net, way):
        raise NoWay(None)
    return way_ties(net, way)


def ties_of_each(net, ways):
    """For each way the ties of it, rising."""
    look_net(net)
    for at, way in enumerate(ways):
        if not is_way(net, way):
            raise NoWay(at)
    return [way_ties(net, way) for way in ways]


def ties_of_few(net, ways, most):
    """For each way the ties of it, refused where there are more ways than so many."""
    rows = ties_of_each(net, ways)
    if len(rows) > most:
        raise TooMany(f"no more than {most} ways")
    return rows


def loads(net, ways):
    """For each tie how many ways lie on it."""
    lists = ties_of_each(net, ways)
    counts = [0] * count_ties(net)
    for ties in lists:
        for tie in ties:
            counts[tie] += 1
    return counts


def load(net, ways):
    """The greatest number of ways on one tie."""
    return max(loads(net, ways))


def have_common(ties, others):
    return any(tie in others for tie in ties)


def met_hues(ties, rows, hues):
    """The hues of the ways that have a common tie with these ties, told by the ties of each way."""
    return [hue for row, hue in zip(rows, hues) if have_common(ties, row)]


def clash(net, ways, hues):
    """None where the hues are right, else the first two ways, as (i, j), at which they are not."""
    lists = ties_of_each(net, ways)
    if len(hues) != len(lists):
        return (-1, -1)
    for i in range(len(lists)):
        if hues[i] < 0:
            return (i, i)
        for j in range(i + 1, len(lists)):
            if hues[i] == hues[j] and have_common(lists[i], lists[j]):
                return (i, j)
    return None


def used(hues):
    """How many unlike numbers there are."""
    return len(set(hues))
