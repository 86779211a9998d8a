"""One who lays ways on a line, two to a tie at most, so that any giver of hues needs four."""

from tiehues.errors import NoHues, NoWay
from tiehues.nets import met_hues, ties_of, used

BOARD = ("line", 41)
ENOUGH_HUES = 4
ALIKE_WAYS = 4


def lone_start(number):
    # Lone ways have one tie; the three between two of them leave room for the ends of wider ways.
    return 4 * number + 1


def first_alike(hues):
    """The numbers of the first four ways that have one hue, none where there are no four."""
    for at, hue in enumerate(hues):
        alike = [number for number in range(at + 1) if hues[number] == hue]
        if len(alike) == ALIKE_WAYS:
            return alike
    return []


def wide_way(alike, later):
    """The next way behind the lone ones, told by the four that are alike and the hues of the wide ones so far."""
    first, second, third, fourth = [lone_start(number) for number in alike]
    if len(later) == 0:
        return (first, first + 2)
    if len(later) == 1:
        return (fourth - 1, fourth + 1)
    # Where the outer two differ, one way that meets both of them and a lone one needs a fourth hue.
    if later[0] != later[1]:
        return (first + 1, fourth)
    # Else a way that meets the left one alone needs a third hue, and then one between the two a fourth.
    if len(later) == 2:
        return (first + 1, second + 2)
    return (second + 1, fourth)


def way_behind(hues):
    """The way that comes behind ways with these hues."""
    if used(hues) >= ENOUGH_HUES:
        return None
    # While at most three hues are used, ten lone ways are enough for four of one hue.
    alike = first_alike(hues)
    if not alike:
        start = lone_start(len(hues))
        return (start, start + 1)
    return wide_way(alike, hues[alike[-1] + 1:])


def look_play(ways, hues):
    """Refuse ways that were not told for these hues, then hues that are not right."""
    rows = []
    right = True
    for at, way in enumerate(ways):
        # Behind hues that are not right no way is told, so none can stand there.
        if not right or way != way_behind(hues[:at]):
            raise NoWay(at)
        ties = ties_of(BOARD, way)
        right = hues[at] not in met_hues(ties, rows, hues)
        rows.append(ties)
    if not right:
        raise NoHues(None)


def next_way(ways, hues):
    """The way that comes next, or None where four unlike hues are used."""
    if len(hues) != len(ways) or any(hue < 0 for hue in hues):
        raise NoHues(None)
    look_play(ways, hues)
    return way_behind(hues)
