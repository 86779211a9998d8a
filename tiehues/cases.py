"""Cases: why so many hues are not enough, told by going through all that a way's hue can be."""

from tiehues.errors import NoNumber
from tiehues.nets import is_whole, ties_of_few

MOST_IN_CASES = 12


def mask_of(ties):
    """Ties as the bits of one number: two ways have a common tie where their bits do."""
    mask = 0
    for tie in ties:
        mask |= 1 << tie
    return mask


def plain_table(rows):
    """For each way the bits of its only lay, the one that it has."""
    return [[mask_of(row)] for row in rows]


def count_unlike(given):
    return len({hue for lay, hue in given.values()})


def options_of(lays, h, given):
    """The options of a way that lies in one of these lays, in order, each as a lay's number and a hue."""
    many = min(h, count_unlike(given) + 1)
    return [(lay, hue) for lay in range(len(lays)) for hue in range(many)]


def is_stuck(table, given, mask, hue):
    """Whether a way with a hue already has this one and a common tie with these bits."""
    return any(hue == other and mask & table[number][lay] for number, (lay, other) in given.items())


def names_way(table, given, case):
    """Whether a thing is a tuple of a way without a hue and a list."""
    if not isinstance(case, tuple) or len(case) != 2:
        return False
    k, children = case
    return is_whole(k) and 0 <= k < len(table) and k not in given and isinstance(children, list)


def is_right_case(table, h, given, case):
    """Whether a case is right where the table has for each way the bits of each of its lays."""
    if not names_way(table, given, case):
        return False
    k, children = case
    options = options_of(table[k], h, given)
    if len(children) != len(options):
        return False
    for (lay, hue), child in zip(options, children):
        if is_stuck(table, given, table[k][lay], hue):
            if child != ():
                return False
        elif not is_right_case(table, h, {**given, k: (lay, hue)}, child):
            return False
    return True


def open_options(table, h, given, k):
    options = options_of(table[k], h, given)
    return [(lay, hue) for lay, hue in options if not is_stuck(table, given, table[k][lay], hue)]


def count_met(table, given, k):
    """How many ways without a hue may have a common tie with way k."""
    others = [number for number in range(len(table)) if number != k and number not in given]
    return len([1 for number in others for mask in table[number] for own in table[k] if own & mask])


def tightest(table, h, given):
    """The way without a hue that has the fewest open options; among such the one that meets the most others."""
    numbers = [k for k in range(len(table)) if k not in given]
    return min(numbers, key=lambda k: (len(open_options(table, h, given, k)), -count_met(table, given, k)))


def given_or_case(table, h, given):
    """A tuple of a lay and a hue for each way, and None; or None, and a right case where there are none such."""
    if len(given) == len(table):
        return (given, None)
    k = tightest(table, h, given)
    children = []
    for lay, hue in options_of(table[k], h, given):
        if is_stuck(table, given, table[k][lay], hue):
            children.append(())
            continue
        found, case = given_or_case(table, h, {**given, k: (lay, hue)})
        if found is not None:
            return (found, None)
        children.append(case)
    return (None, (k, children))


def look_number(number):
    if number < 0:
        raise NoNumber("told for numbers from 0 on")


def case_judged(net, ways, h, case):
    """Whether a case is right for h hues."""
    rows = ties_of_few(net, ways, MOST_IN_CASES)
    look_number(h)
    return is_right_case(plain_table(rows), h, {}, case)


def case_of(net, ways, h):
    """A right case for h hues, or None where they are enough."""
    rows = ties_of_few(net, ways, MOST_IN_CASES)
    look_number(h)
    found, case = given_or_case(plain_table(rows), h, {})
    return case
