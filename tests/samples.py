"""Nets, wrong nets and ways that several tests ask about, and a plain second reading of ties."""

import random

HUGE = 10 ** 29

SMALL_NETS = [
    ("line", 2), ("line", 3), ("line", 5), ("ring", 3), ("ring", 4), ("ring", 5),
    ("tree", [0]), ("tree", [0, 0]), ("tree", [0, 1]), ("tree", [0, 0, 0, 0]),
    ("tree", [0, 0, 1, 1, 2, 5]), ("tree", [0, 1, 2, 1, 0]),
]
GREAT_NETS = [
    ("line", 60), ("ring", 60), ("tree", [0] * 59), ("tree", list(range(59))),
    ("tree", [k // 2 for k in range(59)]),
]
NETS = SMALL_NETS + GREAT_NETS

WRONG_NETS = [
    ("star", 5), ("", 5), ("Line", 5), ("star", [0]), ("", []),
    ("line", 1), ("line", 61), ("line", 0), ("line", -1), ("line", HUGE), ("line", -HUGE),
    ("ring", 2), ("ring", 61), ("ring", 0), ("ring", -1), ("ring", HUGE), ("ring", -HUGE),
    ("tree", []), ("tree", [0] * 60), ("tree", list(range(60))), ("tree", [1]), ("tree", [0, 2]),
    ("tree", [0, 3, 0]), ("tree", [-1]), ("tree", [0, 0, -1]), ("tree", [0, HUGE]), ("tree", [-HUGE]),
    ("line", []), ("line", [0]), ("line", [5]), ("ring", []), ("ring", [0, 1]), ("ring", [5]),
    ("tree", 0), ("tree", 1), ("tree", 5),
]


def places_of(net):
    return len(net[1]) + 1 if net[0] == "tree" else net[1]


def ends_of_ties(net):
    """For each tie the two places that it joins, as point 4 tells them."""
    kind, size = net
    if kind == "tree":
        return [(size[k - 1], k) for k in range(1, len(size) + 1)]
    if kind == "line":
        return [(k, k + 1) for k in range(size - 1)]
    return [(k, k + 1) for k in range(size - 1)] + [(size - 1, 0)]


def all_ways(net):
    many = places_of(net)
    return [(a, b) for a in range(many) for b in range(many) if a != b]


def wrong_ways(net):
    many = places_of(net)
    return [
        (0, 0), (1, 1), (many - 1, many - 1), (-1, 0), (0, -1), (-1, -2), (many, 0), (0, many),
        (many, many + 1), (HUGE, 0), (0, HUGE), (-HUGE, 1), (1, -HUGE), (HUGE, HUGE),
    ]


def walked_ties(net, way):
    """The ties from a to b, found by trying all walks: on a ring upwards only."""
    ends = ends_of_ties(net)
    todo = [(way[0], [])]
    while todo:
        place, gone = todo.pop()
        if place == way[1]:
            return sorted(gone)
        for tie, (low, high) in enumerate(ends):
            if tie in gone:
                continue
            if place == low:
                todo.append((high, gone + [tie]))
            elif place == high and net[0] != "ring":
                todo.append((low, gone + [tie]))
    raise AssertionError("the net does not hang together")


def drawn_ways(net, many, seed):
    """Ways drawn in a settled order: the same ones in each run."""
    drawn = random.Random(seed)
    return [tuple(drawn.sample(range(places_of(net)), 2)) for turn in range(many)]


def counted_loads(net, ways):
    rows = [walked_ties(net, way) for way in ways]
    return [sum(tie in row for row in rows) for tie in range(len(ends_of_ties(net)))]


def first_clash(net, ways, hues):
    """Point 6 word by word: all tuples that are wrong, and the first of them."""
    if len(hues) != len(ways):
        return (-1, -1)
    rows = [set(walked_ties(net, way)) for way in ways]
    wrong = [(i, i) for i in range(len(ways)) if hues[i] < 0]
    wrong += [
        (i, j) for j in range(len(ways)) for i in range(j) if hues[i] == hues[j] and rows[i] & rows[j]
    ]
    return min(wrong) if wrong else None
