"""Ways on a ring, turned and hued at once: the fewest hues of any turning, and the judge of what shows them."""

from tiehues.cases import given_or_case, is_right_case, mask_of
from tiehues.fewest import are_so_many_hues
from tiehues.nets import count_ties, is_whole
from tiehues.turning import few_ring_rows, is_right_paper, is_turning, least_load, turn_ways

MOST_BOTH = 7


def turned_table(net, rows):
    """For each way the bits of both its lays: as it lies, and turned."""
    whole = mask_of(list(range(count_ties(net))))
    return [[mask_of(row), whole - mask_of(row)] for row in rows]


def shows_both(net, rows, h, paper):
    """Whether a paper shows that fewer hues than h do not do for any turning."""
    if paper == ("none",):
        return not rows
    if not isinstance(paper, tuple) or len(paper) != 2 or h < 1:
        return False
    word, told = paper
    if word == "turn":
        return is_right_paper(net, rows, h - 1, {}, told)
    return word == "case" and is_right_case(turned_table(net, rows), h - 1, {}, told)


def turned_judged(net, ways, told):
    """None where a number, a turning, hues and a paper are right, else the first of these that is not."""
    rows = few_ring_rows(net, ways, MOST_BOTH)
    if not isinstance(told, tuple) or len(told) != 4:
        return ("turning",)
    h, turning, hues, paper = told
    if not is_whole(h) or not is_turning(len(rows), turning):
        return ("turning",)
    if not are_so_many_hues(net, turn_ways(ways, turning), h, hues):
        return ("hues",)
    return None if shows_both(net, rows, h, paper) else ("paper",)


def turned_hues(net, ways):
    """The fewest hues of all turnings: their number, a turning, right hues, and a paper why no fewer do."""
    rows = few_ring_rows(net, ways, MOST_BOTH)
    if not ways:
        return (0, [], [], ("none",))
    h, turning, paper = least_load(net, ways)
    table = turned_table(net, rows)
    shown = ("turn", paper)
    found, case = given_or_case(table, h, {})
    while found is None:
        h += 1
        shown = ("case", case)
        found, case = given_or_case(table, h, {})
    turns = [found[k][0] for k in range(len(rows))]
    return (h, turns, [found[k][1] for k in range(len(rows))], shown)
