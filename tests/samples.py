"""Nets, wrong nets and ways that several tests ask about, and a plain second reading of ties."""

import random

from tiehues.errors import TieError

HUGE = 10 ** 29

SMALL_NETS = [
    ("line", 2), ("line", 3), ("line", 5), ("ring", 3), ("ring", 4), ("ring", 5),
    ("tree", [0]), ("tree", [0, 0]), ("tree", [0, 1]), ("tree", [0, 0, 0, 0]),
    ("tree", [0, 0, 1, 1, 2, 5]), ("tree", [0, 1, 2, 1, 0]),
]
GREAT_NETS = [
    ("line", 60), ("ring", 60), ("tree", [0] * 59), ("tree", list(range(59))),
    ("tree", [k // 2 for k in range(59)]),
]
NETS = SMALL_NETS + GREAT_NETS

# Ways that need a hue more than the load: five round a ring, and three at a place of a tree.
RING = ("ring", 5)
ROUND = [(k, (k + 2) % 5) for k in range(5)]
STAR = ("tree", [0, 0, 0])
SIDES = [(1, 2), (2, 3), (3, 1)]

WRONG_NETS = [
    ("star", 5), ("", 5), ("Line", 5), ("star", [0]), ("", []),
    ("line", 1), ("line", 61), ("line", 0), ("line", -1), ("line", HUGE), ("line", -HUGE),
    ("ring", 2), ("ring", 61), ("ring", 0), ("ring", -1), ("ring", HUGE), ("ring", -HUGE),
    ("tree", []), ("tree", [0] * 60), ("tree", list(range(60))), ("tree", [1]), ("tree", [0, 2]),
    ("tree", [0, 3, 0]), ("tree", [-1]), ("tree", [0, 0, -1]), ("tree", [0, HUGE]), ("tree", [-HUGE]),
    ("line", []), ("line", [0]), ("line", [5]), ("ring", []), ("ring", [0, 1]), ("ring", [5]),
    ("tree", 0), ("tree", 1), ("tree", 5),
]


def places_of(net):
    return len(net[1]) + 1 if net[0] == "tree" else net[1]


def ends_of_ties(net):
    """For each tie the two places that it joins, as point 4 tells them."""
    kind, size = net
    if kind == "tree":
        return [(size[k - 1], k) for k in range(1, len(size) + 1)]
    if kind == "line":
        return [(k, k + 1) for k in range(size - 1)]
    return [(k, k + 1) for k in range(size - 1)] + [(size - 1, 0)]


def all_ways(net):
    many = places_of(net)
    return [(a, b) for a in range(many) for b in range(many) if a != b]


def wrong_ways(net):
    many = places_of(net)
    return [
        (0, 0), (1, 1), (many - 1, many - 1), (-1, 0), (0, -1), (-1, -2), (many, 0), (0, many),
        (many, many + 1), (HUGE, 0), (0, HUGE), (-HUGE, 1), (1, -HUGE), (HUGE, HUGE),
    ]


def walked_ties(net, way):
    """The ties from a to b, found by trying all walks: on a ring upwards only."""
    ends = ends_of_ties(net)
    todo = [(way[0], [])]
    while todo:
        place, gone = todo.pop()
        if place == way[1]:
            return sorted(gone)
        for tie, (low, high) in enumerate(ends):
            if tie in gone:
                continue
            if place == low:
                todo.append((high, gone + [tie]))
            elif place == high and net[0] != "ring":
                todo.append((low, gone + [tie]))
    raise AssertionError("the net does not hang together")


def drawn_ways(net, many, seed):
    """Ways drawn in a settled order: the same ones in each run."""
    drawn = random.Random(seed)
    return [tuple(drawn.sample(range(places_of(net)), 2)) for turn in range(many)]


def counted_loads(net, ways):
    rows = [walked_ties(net, way) for way in ways]
    return [sum(tie in row for row in rows) for tie in range(len(ends_of_ties(net)))]


def first_clash(net, ways, hues):
    """Point 6 word by word: all tuples that are wrong, and the first of them."""
    if len(hues) != len(ways):
        return (-1, -1)
    rows = [set(walked_ties(net, way)) for way in ways]
    wrong = [(i, i) for i in range(len(ways)) if hues[i] < 0]
    wrong += [
        (i, j) for j in range(len(ways)) for i in range(j) if hues[i] == hues[j] and rows[i] & rows[j]
    ]
    return min(wrong) if wrong else None


def refusal(asked, *things):
    """The refusal's name and its value, None where it has none; or nothing where there is an answer."""
    try:
        asked(*things)
    except TieError as refused:
        value = [getattr(refused, name) for name in ("at", "place", "row") if hasattr(refused, name)]
        return (refused.__class__.__name__, *value)
    return None


def line_rows(ways):
    """The ties of each way of a line."""
    return [set(range(min(way), max(way))) for way in ways]


def level_hues(level):
    return [0] if level == 1 else [3 * level - 5, 3 * level - 4, 3 * level - 3]


def pair_loads(crossing):
    many, pairs = crossing
    return [sum(tie in pair for pair in pairs) for tie in range(many)]


def right_pairs(crossing, hues):
    """Whether hues of a crossing are right, as point 13 tells it."""
    pairs = crossing[1]
    if len(hues) != len(pairs) or min(hues, default=0) < 0:
        return False
    return not any(
        hues[i] == hues[j] and set(pairs[i]) & set(pairs[j]) for j in range(len(pairs)) for i in range(j)
    )


def drawn_pairs(many, count, seed, alone=True):
    """Pairs of a crossing, drawn in a settled order; without those of one tie where they are not wanted."""
    drawn = random.Random(seed)
    pairs = [tuple(sorted(drawn.choices(range(many), k=2))) for turn in range(count)]
    return [pair for pair in pairs if alone or pair[0] != pair[1]]


def level_pairs(many, load, seed):
    """Pairs of a crossing, drawn in a settled order, such that each tie has the same load."""
    drawn = random.Random(seed)
    left, pairs = [load] * many, []
    while any(left):
        open_ties = [tie for tie in range(many) if left[tie]]
        ends = drawn.sample(open_ties, 2 if len(open_ties) > 1 and drawn.random() < 0.9 else 1)
        for tie in ends:
            left[tie] -= 1
        pairs.append((min(ends), max(ends)))
    drawn.shuffle(pairs)
    return pairs


WRONG_CROSSINGS = [
    (-1, []), (61, []), (HUGE, []), (-HUGE, []), (-1, [(0, 0)]), (0, [(0, 0)]), (1, [(0, 1)]), (2, [(1, 0)]),
    (2, [(0, 1), (0, 2)]), (2, [(2, 2)]), (3, [(-1, 1)]), (3, [(-1, -1)]), (3, [(-2, -1)]), (3, [(0, 1), (2, 1)]),
    (60, [(0, 60)]), (60, [(60, 60)]), (61, [(0, 1)]), (3, [(0, HUGE)]), (3, [(-HUGE, 0)]), (3, [(HUGE, HUGE)]),
    (3, [(0, 1)] * 61), (60, [(0, 0)] * 61), (13, [(0, 13)]), (3, [(0, 1)] * 59 + [(0, 3)]),
]


def nested(kind, deep, core):
    for turn in range(deep):
        core = kind([core])
    return core


def deep_case(deep):
    thing = ()
    for turn in range(deep):
        thing = (0, [thing])
    return thing


# Things of other kinds, as a judge may be handed them: none is a case, a paper or what is told.
ODD_THINGS = [
    None, True, False, 0, 1, -1, HUGE, -HUGE, "", "none", "tie", "lot", "case", "ties", "turn", "hues", "()", (), [],
    ((),), ([],), [()], [[]], (0,), [0], (None,), ("none",), ("case",), ("ties",), (True,), (0, ()), [0, []],
    (True, []), (None, []), ("0", []), ((0, []), []), (0, [], []), ([], 0), ([0], []), (0, None), (0, 0), (0, True),
    (0, "()"),
    (-1, []), (HUGE, []), (-HUGE, []), (99, [()]), (0, [[]]), (0, [None]), (0, [True]), (0, [0]), ("case", (0, [])),
    ("tie", None), ("tie", True), ("tie", -1), ("tie", HUGE), ("tie", "0"), ("lot", 0), ("lot", 0, 0), ("lot", 0, ()),
    ("lot", None, [0, 1, 2]), ("lot", True, [0, 1, 2]), ("case", None), ("case", ()), ("case", [0, []]), ("turn", ()),
    ("ties", 0), ("ties", 0, None), ("ties", True, 1), ("ties", -1, 0), ("ties", 0, HUGE), ("ties", 0, 1, 2),
    ["ties", 0, 1], (0, (), ()), (0, None, None), (True, ("ties", 0, 1), ("ties", 0, 1)), ("none", "none"),
    nested(tuple, 90, 0), nested(list, 90, None), nested(tuple, 90, ()), deep_case(45), (0, nested(list, 88, 0)),
    [0] * 4999, (0,) * 4999, [()] * 4999, [[0]] * 2499, (0, [()] * 4990), (0, [(1, [()])] * 999),
    ("lot", 0, [0] * 4990),
    ("lot", 0, list(range(4990))), "x" * 4000, [[], ()] * 1600, ((0, []),) * 1600,
]
