"""Places where ties meet: hues for the ways there, and lots of ties that show how many are needed."""

from tiehues.errors import NoCrossing, NoLot, TooMany
from tiehues.nets import have_common

MOST_TIES = 60
MOST_PAIRS = 60
MOST_LOT_TIES = 12


def is_crossing(crossing):
    many, pairs = crossing
    if not 0 <= many <= MOST_TIES or len(pairs) > MOST_PAIRS:
        return False
    return all(0 <= s <= t < many for s, t in pairs)


def look_crossing(crossing):
    if not is_crossing(crossing):
        raise NoCrossing("no ties and pairs of them as told")


def pair_load(many, pairs):
    """The greatest number of pairs on one tie."""
    counts = [0] * many
    for s, t in pairs:
        counts[s] += 1
        if s != t:
            counts[t] += 1
    return max(counts, default=0)


def are_right(pairs, hues):
    """Whether these are right hues of the pairs."""
    if len(hues) != len(pairs) or any(hue < 0 for hue in hues):
        return False
    for j, hue in enumerate(hues):
        if any(hues[i] == hue and have_common(pairs[i], pairs[j]) for i in range(j)):
            return False
    return True


def first_common(hues, others):
    for hue in hues:
        if hue in others:
            return hue
    return None


class Meeting:
    """Edges between knots, which get hues less than many one by one: at a knot all differ."""

    def __init__(self, ends, knots, many):
        self.ends = ends
        self.many = many
        self.given = [None] * len(ends)
        # For each knot the edge of each hue that stands there.
        self.seats = [{} for knot in range(knots)]

    def far_end(self, edge, knot):
        a, b = self.ends[edge]
        return b if knot == a else a

    def free(self, knot):
        return [hue for hue in range(self.many) if hue not in self.seats[knot]]

    def set_hue(self, edge, hue):
        a, b = self.ends[edge]
        self.seats[a][hue] = edge
        self.seats[b][hue] = edge
        self.given[edge] = hue

    def drop_hue(self, edge):
        a, b = self.ends[edge]
        del self.seats[a][self.given[edge]]
        del self.seats[b][self.given[edge]]
        self.given[edge] = None

    def chain(self, knot, hue, other):
        """The edges that one goes by from a knot without the other hue, by turns of both, and the last knot."""
        edges = []
        while hue in self.seats[knot]:
            edge = self.seats[knot][hue]
            edges.append(edge)
            knot = self.far_end(edge, knot)
            hue, other = other, hue
        return (edges, knot)

    def exchange(self, edges, hue, other):
        """Give each edge of a whole chain the other one of the two hues."""
        turned = [other if self.given[edge] == hue else hue for edge in edges]
        for edge in edges:
            self.drop_hue(edge)
        for edge, new in zip(edges, turned):
            self.set_hue(edge, new)

    def make_free(self, u, v):
        """A hue that is free at both knots, made so where no free hue of u is free at v."""
        wanted = self.free(u)[0]
        beside = self.seats[v][wanted]
        w = self.far_end(beside, v)
        # The free hues of u, v and w are together more than all hues: two of the knots have one in common.
        new = first_common(self.free(v), self.free(w))
        if new is None:
            new = self.free(v)[0]
            shared = first_common(self.free(u), self.free(w))
            edges, last = self.chain(v, shared, new)
            if last != u:
                self.exchange(edges, shared, new)
                return shared
            # The chain of v ends at u, so that of w is another one.
            edges, last = self.chain(w, new, shared)
            self.exchange(edges, new, shared)
        self.drop_hue(beside)
        self.set_hue(beside, new)
        return wanted

    def set_some_hue(self, edge):
        u, v = self.ends[edge]
        hue = first_common(self.free(u), self.free(v))
        if hue is None:
            hue = self.make_free(u, v)
        self.set_hue(edge, hue)


def pair_hues(many, pairs):
    """Right hues of the pairs less than half of three times their load, rounded down."""
    # A way that begins or ends here gets a knot of its own for its far end.
    ends = [(s, t if s != t else many + at) for at, (s, t) in enumerate(pairs)]
    meeting = Meeting(ends, many + len(pairs), 3 * pair_load(many, pairs) // 2)
    for edge in range(len(ends)):
        meeting.set_some_hue(edge)
    return meeting.given


def cross_hues(crossing):
    """Right hues of a crossing less than half of three times its load, rounded down."""
    look_crossing(crossing)
    many, pairs = crossing
    return pair_hues(many, pairs)


def is_lot(many, lot):
    if len(lot) < 3 or len(lot) % 2 == 0:
        return False
    rising = all(lot[k] < lot[k + 1] for k in range(len(lot) - 1))
    return rising and lot[0] >= 0 and lot[-1] < many


def bound_of(pairs, lot):
    """How many hues the pairs within an odd lot need."""
    within = len([s for s, t in pairs if s != t and s in lot and t in lot])
    half = len(lot) // 2
    return (within + half - 1) // half


def lot_bound(crossing, lot):
    """How many hues an odd lot shows to be needed."""
    look_crossing(crossing)
    many, pairs = crossing
    if not is_lot(many, lot):
        raise NoLot("no rising list of an odd number of ties, three or more")
    return bound_of(pairs, lot)


def rising_lists(many, size):
    """All rising lists of so many numbers less than many, by the lesser numbers first."""
    rows = [[]]
    for turn in range(size):
        rows = [row + [k] for row in rows for k in range(row[-1] + 1 if row else 0, many)]
    return rows


def best_lot(crossing):
    """The greatest bound of the load and of all odd lots, and the first lot that shows it, [] for the load."""
    look_crossing(crossing)
    many, pairs = crossing
    if many > MOST_LOT_TIES:
        raise TooMany(f"no more than {MOST_LOT_TIES} ties")
    best = pair_load(many, pairs)
    best_row = []
    for size in range(3, many + 1, 2):
        for lot in rising_lists(many, size):
            bound = bound_of(pairs, lot)
            if bound > best:
                best = bound
                best_row = lot
    return (best, best_row)
