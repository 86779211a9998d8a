"""Ways on a line that come one by one and get their hues for good, and what shows that few hues are used."""

from tiehues.errors import NoWay, TooMany
from tiehues.nets import MOST_WAYS, look_kind, met_hues, ties_of, ties_of_each


def levels_on(ties, rows, levels):
    """For each of the ties the levels of the ways on it, told by the ties of each way."""
    table = {tie: [] for tie in ties}
    for row, level in zip(rows, levels):
        for tie in row:
            if tie in table:
                table[tie].append(level)
    return table


def count_up_to(levels, level):
    return len([other for other in levels if other <= level])


def least_level(table):
    """The level of a way, told by the levels of the ways ahead on each of its ties."""
    level = 1
    while any(count_up_to(levels, level) >= level for levels in table.values()):
        level += 1
    return level


def is_own(levels, level):
    """Whether ways of these levels leave their tie to a way of this level as its own."""
    # As many up to the level as below it: none of just this level is among them.
    return count_up_to(levels, level - 1) == level - 1 == count_up_to(levels, level)


def hues_of_level(level):
    if level == 1:
        return [0]
    return [3 * level - 5, 3 * level - 4, 3 * level - 3]


class Giver:
    """Gives hues to the ways of a line as they come."""

    def __init__(self, net):
        look_kind(net, "line")
        self.line = net
        self.kept_ways = []
        self.kept_ties = []
        self.kept_levels = []
        self.kept_own = []
        self.kept_hues = []

    def put(self, way):
        """Keep a way and tell its hue."""
        ties = ties_of(self.line, way)
        if len(self.kept_ways) >= MOST_WAYS:
            raise TooMany(f"no more than {MOST_WAYS} ways")
        table = levels_on(ties, self.kept_ties, self.kept_levels)
        level = least_level(table)
        own = [tie for tie in ties if is_own(table[tie], level)]
        met = met_hues(ties, self.kept_ties, self.kept_hues)
        free = [hue for hue in hues_of_level(level) if hue not in met]
        self.kept_ways.append(way)
        self.kept_ties.append(ties)
        self.kept_levels.append(level)
        self.kept_own.append(own[0])
        self.kept_hues.append(free[0])
        return free[0]

    def ways(self):
        """The ways in the order in which they came."""
        return list(self.kept_ways)

    def hues(self):
        """The hues of the ways."""
        return list(self.kept_hues)

    def levels(self):
        """The levels of the ways."""
        return list(self.kept_levels)

    def own_tie(self, number):
        """The least own tie of a way, as it was when the way came."""
        if not 0 <= number < len(self.kept_own):
            raise NoWay(number)
        return self.kept_own[number]


def is_shown(rows, lines, at):
    """Whether the level, the tie and the hue told for a way are as they should be."""
    level, tie, hue = lines[at]
    if level < 1 or tie not in rows[at]:
        return False
    levels = [line[0] for line in lines]
    ahead = levels_on([tie], rows[:at], levels)
    behind = levels_on([tie], rows[at + 1:], levels[at + 1:])
    if not is_own(ahead[tie], level) or level in behind[tie]:
        return False
    met = met_hues(rows[at], rows[:at], [line[2] for line in lines])
    return hue in hues_of_level(level) and hue not in met


def shows(net, ways, lines):
    """None where the lines show that few hues are used, else the number of the first way where they do not."""
    look_kind(net, "line")
    rows = ties_of_each(net, ways)
    for at in range(min(len(rows), len(lines))):
        if not is_shown(rows, lines, at):
            return at
    return None if len(lines) == len(rows) else len(rows)
