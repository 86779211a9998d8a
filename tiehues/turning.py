"""Ways on a ring, turned either way round: the least load of all turnings, and what shows it."""

from tiehues.cases import look_number
from tiehues.errors import NoTie, NoTurning
from tiehues.nets import count_ties, is_tie, is_whole, look_kind, ties_of_each, ties_of_few

MOST_TURNED = 14


def ring_rows(net, ways):
    """For each way on a ring the ties of it."""
    look_kind(net, "ring")
    return ties_of_each(net, ways)


def few_ring_rows(net, ways, most):
    """For each way on a ring the ties of it, refused where there are more ways than so many."""
    look_kind(net, "ring")
    return ties_of_few(net, ways, most)


def is_turning(many, turning):
    """Whether a thing is a turning of so many ways."""
    if not isinstance(turning, list) or len(turning) != many:
        return False
    return all(is_whole(turn) and 0 <= turn <= 1 for turn in turning)


def turn_ways(ways, turning):
    return [(b, a) if turn else (a, b) for (a, b), turn in zip(ways, turning)]


def turned(net, ways, turning):
    """The ways, those turned that have a 1 in the turning."""
    rows = ring_rows(net, ways)
    if not is_turning(len(rows), turning):
        raise NoTurning("no list of 0 and 1, one for each way")
    return turn_ways(ways, turning)


def parts(row, e, f):
    """Whether a way with these ties lies on just one of two ties."""
    return (e in row) != (f in row)


def parted(net, ways, e, f):
    """The numbers of the ways that two ties part."""
    rows = ring_rows(net, ways)
    if not is_tie(net, e) or not is_tie(net, f):
        raise NoTie("the ring has no such tie")
    return [number for number, row in enumerate(rows) if parts(row, e, f)]


def settled_load(rows, settled, tie):
    """How many of the settled ways lie on a tie."""
    return len([1 for number, turn in settled.items() if (tie in rows[number]) != (turn == 1)])


def shown_load(rows, settled, e, f):
    """What the loads of two ties come to at least, taken together, however the ways not settled are turned."""
    others = [row for number, row in enumerate(rows) if number not in settled and parts(row, e, f)]
    return settled_load(rows, settled, e) + settled_load(rows, settled, f) + len(others)


def is_right_paper(net, rows, m, settled, paper):
    """Whether a turn paper is right for the bound m and ways, told by their ties, of which some are settled."""
    if not isinstance(paper, tuple) or len(paper) != 3:
        return False
    first, one, other = paper
    if first == "ties":
        return is_tie(net, one) and is_tie(net, other) and shown_load(rows, settled, one, other) > 2 * m
    if not is_whole(first) or not 0 <= first < len(rows) or first in settled:
        return False
    if not is_right_paper(net, rows, m, {**settled, first: 0}, one):
        return False
    return is_right_paper(net, rows, m, {**settled, first: 1}, other)


def turn_judged(net, ways, m, paper):
    """Whether a turn paper is right for the bound m."""
    rows = few_ring_rows(net, ways, MOST_TURNED)
    look_number(m)
    return is_right_paper(net, rows, m, {}, paper)


def telling_pairs(many, rows):
    """Pairs of ties that stand for all: of ties on which the same ways lie the least one is enough."""
    kinds = {}
    for tie in range(many):
        kinds.setdefault(tuple([tie in row for row in rows]), tie)
    ties = list(kinds.values())
    return [(e, f) for e in ties for f in ties if e <= f]


def gains_of(pairs, row):
    """For a way as it lies, then turned, what settling it so adds to the weight of each pair."""
    # A way that a pair parts counts once for it, settled or not, so that it adds nothing.
    as_it_lies = [2 if e in row and f in row else 0 for e, f in pairs]
    turned_over = [2 if e not in row and f not in row else 0 for e, f in pairs]
    return (as_it_lies, turned_over)


def heavier(weights, gain):
    return [weight + more for weight, more in zip(weights, gain)]


def most_pressed(gains, weights, settled):
    """The way not settled yet whose two turns make the greatest weights."""
    numbers = [k for k in range(len(gains)) if k not in settled]
    tops = {k: [max(heavier(weights, gain)) for gain in gains[k]] for k in numbers}
    return max(numbers, key=lambda k: (max(tops[k]), sum(tops[k])))


def turning_or_paper(pairs, gains, m, weights, settled):
    """The turn of each way, with a load of at most m, and None; or None, and a right turn paper for m."""
    top = max(weights)
    if top > 2 * m:
        e, f = pairs[weights.index(top)]
        return (None, ("ties", e, f))
    if len(settled) == len(gains):
        return (settled, None)
    k = most_pressed(gains, weights, settled)
    papers = []
    for turn, gain in enumerate(gains[k]):
        found, paper = turning_or_paper(pairs, gains, m, heavier(weights, gain), {**settled, k: turn})
        if found is not None:
            return (found, None)
        papers.append(paper)
    one, other = papers
    return (None, (k, one, other))


def least_load(net, ways):
    """The least load of all turnings, a turning with it, and a turn paper that is right for one less."""
    rows = few_ring_rows(net, ways, MOST_TURNED)
    pairs = telling_pairs(count_ties(net), rows)
    gains = [gains_of(pairs, row) for row in rows]
    weights = [len([row for row in rows if parts(row, e, f)]) for e, f in pairs]
    m = -1
    found = paper = last = None
    while found is None:
        m += 1
        last = paper
        found, paper = turning_or_paper(pairs, gains, m, weights, {})
    return (m, [found[k] for k in range(len(rows))], last)


def short_turning(net, ways):
    """The turning in which each way lies on at most half of the ties, as it lies where both make as many."""
    rows = ring_rows(net, ways)
    return [1 if 2 * len(row) > count_ties(net) else 0 for row in rows]
