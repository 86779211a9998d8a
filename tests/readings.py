"""Plain second readings of what the judges judge, and searches through all there is."""

import functools
import itertools

from tests.samples import ends_of_ties, walked_ties


def is_int(thing):
    return type(thing) is int


def are_ints(thing):
    return type(thing) is list and all(is_int(part) for part in thing)


def rows_of(net, ways):
    return [set(walked_ties(net, way)) for way in ways]


def turned_rows(net, ways):
    """For each way its ties as it lies, then turned."""
    whole = set(range(len(ends_of_ties(net))))
    return [(row, whole - row) for row in rows_of(net, ways)]


@functools.cache
def all_givings(many):
    """All hues of so many ways, but for the names of hues: each new one is the least that is not used."""
    rows = [()]
    for turn in range(many):
        rows = [row + (hue,) for row in rows for hue in range(max(row, default=-1) + 2)]
    return rows


def fewest_of_rows(rows):
    """The fewest hues, found by a search through all givings."""
    met = [(i, j) for j in range(len(rows)) for i in range(j) if rows[i] & rows[j]]
    right = [hues for hues in all_givings(len(rows)) if not any(hues[i] == hues[j] for i, j in met)]
    return min(len(set(hues)) for hues in right)


def fewest_hues(net, ways):
    return fewest_of_rows(rows_of(net, ways))


def fewest_turned(net, ways):
    """The fewest hues of any turning, found by a search through all turnings and givings."""
    return min(fewest_of_rows(rows) for rows in itertools.product(*turned_rows(net, ways)))


def load_of_rows(rows):
    return max([sum(tie in row for row in rows) for tie in set().union(*rows)], default=0)


def lightest(net, ways):
    """The least load, found by a search through all turnings."""
    return min(load_of_rows(rows) for rows in itertools.product(*turned_rows(net, ways)))


def is_case(lays, h, case, given=()):
    """Points 18 and 25 word by word: each way has its ties in each lay, given ones are (number, ties, hue)."""
    if type(case) is not tuple or len(case) != 2 or not is_int(case[0]) or type(case[1]) is not list:
        return False
    k, children = case
    if k not in range(len(lays)) or k in [number for number, ties, hue in given]:
        return False
    unlike = len({hue for number, ties, hue in given})
    options = [(ties, hue) for ties in lays[k] for hue in range(min(h - 1, unlike) + 1)]
    if len(children) != len(options):
        return False
    for child, (ties, hue) in zip(children, options):
        stuck = any(hue == other and ties & row for number, row, other in given)
        if stuck and not (type(child) is tuple and child == ()):
            return False
        if not stuck and not is_case(lays, h, child, given + ((k, ties, hue),)):
            return False
    return True


def right_case(net, ways, h, case):
    return is_case([(row,) for row in rows_of(net, ways)], h, case)


def is_turn_paper(lays, many, m, paper, settled=()):
    """Point 23 word by word: settled ones are (number, turn)."""
    if type(paper) is not tuple or len(paper) != 3:
        return False
    first, one, other = paper
    if type(first) is str:
        if first != "ties" or not all(is_int(tie) and tie in range(many) for tie in (one, other)):
            return False
        loads = [sum(tie in lays[number][turn] for number, turn in settled) for tie in (one, other)]
        others = [number for number in range(len(lays)) if number not in dict(settled)]
        return sum(loads) + sum((one in lays[k][0]) != (other in lays[k][0]) for k in others) > 2 * m
    if not is_int(first) or first not in range(len(lays)) or first in dict(settled):
        return False
    both = [is_turn_paper(lays, many, m, paper[1 + turn], settled + ((first, turn),)) for turn in (0, 1)]
    return all(both)


def right_turn_paper(net, ways, m, paper):
    return is_turn_paper(turned_rows(net, ways), len(ends_of_ties(net)), m, paper)


def are_right_hues(rows, h, hues):
    if not is_int(h) or not are_ints(hues) or len(hues) != len(rows) or min(hues, default=0) < 0:
        return False
    met = [(i, j) for j in range(len(rows)) for i in range(j) if rows[i] & rows[j]]
    return not any(hues[i] == hues[j] for i, j in met) and len(set(hues)) == h


def is_lot_paper(net, ways, h, place, lot):
    if net[0] != "tree" or not is_int(place) or place not in range(len(net[1]) + 1) or not are_ints(lot):
        return False
    ties = sorted(tie for tie, ends in enumerate(ends_of_ties(net)) if place in ends)
    if len(lot) < 3 or len(lot) % 2 == 0 or lot != sorted(set(lot)) or not set(lot) <= set(range(len(ties))):
        return False
    picked = {ties[k] for k in lot}
    within = sum(len(row & picked) == 2 for row in rows_of(net, ways))
    return within > (h - 1) * (len(lot) // 2)


def judged_fewest(net, ways, told):
    """Point 21 word by word."""
    if type(told) is not tuple or len(told) != 3 or not are_right_hues(rows_of(net, ways), told[0], told[1]):
        return ("hues",)
    h, hues, paper = told
    if type(paper) is not tuple or not paper or type(paper[0]) is not str:
        return ("paper",)
    shape = (paper[0], len(paper))
    if shape == ("none", 1):
        right = len(ways) == 0
    elif shape == ("tie", 2):
        there = is_int(paper[1]) and paper[1] in range(len(ends_of_ties(net)))
        right = there and sum(paper[1] in row for row in rows_of(net, ways)) == h
    elif shape == ("lot", 3):
        right = is_lot_paper(net, ways, h, paper[1], paper[2])
    elif shape == ("case", 2):
        right = h >= 1 and right_case(net, ways, h - 1, paper[1])
    else:
        right = False
    return None if right else ("paper",)


def judged_turned(net, ways, told):
    """Point 25 word by word."""
    lays = turned_rows(net, ways)
    if type(told) is not tuple or len(told) != 4 or not is_int(told[0]):
        return ("turning",)
    h, turning, hues, paper = told
    if not are_ints(turning) or len(turning) != len(ways) or not set(turning) <= {0, 1}:
        return ("turning",)
    if not are_right_hues([lay[turn] for lay, turn in zip(lays, turning)], h, hues):
        return ("hues",)
    right = False
    if type(paper) is tuple and len(paper) == 1 and type(paper[0]) is str and paper[0] == "none":
        right = len(ways) == 0
    elif type(paper) is tuple and len(paper) == 2 and type(paper[0]) is str and h >= 1:
        if paper[0] == "turn":
            right = right_turn_paper(net, ways, h - 1, paper[1])
        elif paper[0] == "case":
            right = is_case(lays, h - 1, paper[1])
    return None if right else ("paper",)


def swapped(thing, place, other):
    """A thing with another one at a place, which is told by the numbers that lead to it."""
    if not place:
        return other
    parts = list(thing)
    parts[place[0]] = swapped(parts[place[0]], place[1:], other)
    return type(thing)(parts)


def places_in(thing):
    """All places in a thing, that of the whole among them."""
    found = [()]
    if type(thing) in (list, tuple):
        found += [(at,) + rest for at, part in enumerate(thing) for rest in places_in(part)]
    return found


def part_at(thing, place):
    for at in place:
        thing = thing[at]
    return thing


def bent_part(part):
    """Things that are a little other than this one."""
    others = [None, True, False, "", "none", -1, 0, 1, 99, (), [], (0, []), ("ties", 0, 0)]
    if type(part) is int:
        others += [part + 1, part - 1, str(part), [part], (part,)]
    if type(part) in (list, tuple):
        kind = type(part)
        others += [tuple(part) if kind is list else list(part), part + kind([()]), part + kind([0]), part[::-1]]
        others += [part[:at] + part[at + 1:] for at in range(len(part))]
        others += [part[:at] + part[at:at + 1] + part[at:] for at in range(len(part))]
    return [other for other in others if type(other) is not type(part) or other != part]


def bent(thing):
    """Each thing that comes of this one by bending it at one place."""
    for place in places_in(thing):
        for other in bent_part(part_at(thing, place)):
            yield swapped(thing, place, other)
