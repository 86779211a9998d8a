"""Hues on a ring, ways as they lie: always fewer than twice the load."""

from tiehues.lines import swept_hues
from tiehues.nets import loads, look_kind, ties_of_each


def cut_hues(many, rows, tie):
    """Right hues of ways on a ring of so many ties, each way on this tie with a hue for itself."""
    over = [number for number, row in enumerate(rows) if tie in row]
    others = [number for number, row in enumerate(rows) if tie not in row]
    # Cut at the tie, the ring is a line for the others.
    line = [sorted([(other - tie) % many for other in rows[number]]) for number in others]
    hues = [0] * len(rows)
    for hue, number in enumerate(over):
        hues[number] = hue
    for hue, number in zip(swept_hues(line), others):
        hues[number] = len(over) + hue
    return hues


def chained(many, ways):
    """Numbers of ways, from way 0 on, each of which begins where the one ahead ends, within once round."""
    numbers = []
    start = ways[0][0]
    gone = 0
    # Each tie has the same load, so at each place where a way ends another one begins.
    while gone < many:
        begins = [a for a, b in ways]
        number = begins.index((start + gone) % many)
        a, b = ways[number]
        gone += (b - a) % many
        if gone <= many:
            numbers.append(number)
    return numbers


def level_hues(many, ways, rows):
    """Right hues less than twice the load less one, where each tie has the same load."""
    chain = chained(many, ways)
    rest = [number for number in range(len(ways)) if number not in chain]
    # The ways of the chain share a hue. Where they leave a gap, one way goes over all of it and on to the
    # first tie of the chain: cut at that tie, with one way less than the load on it, the others are on no
    # tie more than that, either.
    hues = [0] * len(ways)
    for number, hue in zip(rest, cut_hues(many, [rows[number] for number in rest], ways[0][0])):
        hues[number] = hue + 1
    return hues


def ring_hues(net, ways):
    """Right hues less than the load and the least load of a tie together, or, where these are alike, one less."""
    look_kind(net, "ring")
    rows = ties_of_each(net, ways)
    counts = loads(net, ways)
    if ways and min(counts) == max(counts):
        return level_hues(net[1], ways, rows)
    return cut_hues(net[1], rows, counts.index(min(counts)))
