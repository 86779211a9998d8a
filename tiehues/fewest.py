"""The fewest hues on any net, with a paper that shows why no fewer do, and the judge of both."""

from tiehues.cases import MOST_IN_CASES, given_or_case, is_right_case, plain_table
from tiehues.crossings import best_lot, bound_of, is_lot
from tiehues.nets import clash, count_places, is_place, is_tie, is_whole, loads, ties_of_few, used
from tiehues.trees import meeting_at


def are_whole(numbers):
    """Whether a thing is a list of whole numbers."""
    return isinstance(numbers, list) and all(is_whole(number) for number in numbers)


def are_so_many_hues(net, ways, h, hues):
    """Whether things are a whole number and right hues, so many unlike ones."""
    if not is_whole(h) or not are_whole(hues):
        return False
    return clash(net, ways, hues) is None and used(hues) == h


def is_right_tie(net, rows, h, tie):
    """Whether a thing is a tie on which h ways lie, told by the ties of each way."""
    return is_tie(net, tie) and len([row for row in rows if tie in row]) == h


def is_right_lot(net, rows, h, place, lot):
    """Whether things are a place of a tree and an odd lot there that needs h hues, or more."""
    if net[0] != "tree" or not is_place(net, place) or not are_whole(lot):
        return False
    (many, pairs), numbers = meeting_at(net[1], rows, place)
    return is_lot(many, lot) and bound_of(pairs, lot) >= h


def shows_fewest(net, rows, h, paper):
    """Whether a paper shows that fewer hues than h do not do."""
    if not isinstance(paper, tuple) or not paper:
        return False
    word, *told = paper
    if word == "none" and len(told) == 0:
        return not rows
    if word == "tie" and len(told) == 1:
        return is_right_tie(net, rows, h, told[0])
    if word == "lot" and len(told) == 2:
        return is_right_lot(net, rows, h, told[0], told[1])
    if word == "case" and len(told) == 1:
        return h >= 1 and is_right_case(plain_table(rows), h - 1, {}, told[0])
    return False


def fewest_judged(net, ways, told):
    """None where a number, hues and a paper are right, else the first of the two that is not."""
    rows = ties_of_few(net, ways, MOST_IN_CASES)
    if not isinstance(told, tuple) or len(told) != 3:
        return ("hues",)
    h, hues, paper = told
    if not are_so_many_hues(net, ways, h, hues):
        return ("hues",)
    return None if shows_fewest(net, rows, h, paper) else ("paper",)


def lot_paper(net, rows, h):
    """A paper with a lot that needs h hues, more than the load; None where no place has one."""
    for place in range(count_places(net)):
        (many, pairs), numbers = meeting_at(net[1], rows, place)
        # Ties with one way are of little help, and of the others there are not too many to look through.
        busy = [tie for tie in range(many) if len([1 for pair in pairs if tie in pair]) > 1]
        inner = [(busy.index(s), busy.index(t)) for s, t in pairs if s in busy and t in busy]
        bound, lot = best_lot((len(busy), inner))
        if bound >= h:
            return ("lot", place, [busy[k] for k in lot])
    return None


def paper_of(net, rows, counts, h, case):
    """A paper for the fewest hues, with this case, None where they are as many as the load."""
    if not rows:
        return ("none",)
    if case is None:
        return ("tie", counts.index(h))
    paper = lot_paper(net, rows, h) if net[0] == "tree" else None
    return ("case", case) if paper is None else paper


def fewest(net, ways):
    """The fewest hues: their number, right hues, and a paper that shows why no fewer do."""
    rows = ties_of_few(net, ways, MOST_IN_CASES)
    counts = loads(net, ways)
    h = max(counts) - 1
    found = case = last = None
    while found is None:
        h += 1
        last = case
        found, case = given_or_case(plain_table(rows), h, {})
    hues = [found[k][1] for k in range(len(rows))]
    return (h, hues, paper_of(net, rows, counts, h, last))
