"""Nets with ways and hues as texts, a row for each."""

from tiehues.errors import NoHues, NoText
from tiehues.nets import MOST_WAYS, clash, is_net, is_way, ties_of_each

MOST_FIGURES = 30


def is_number(word):
    """Whether a word is a number from 0 on in figures, without a nought ahead."""
    if not word.isascii() or not word.isdigit() or len(word) > MOST_FIGURES:
        return False
    return word == "0" or word[0] != "0"


def row_of(word, numbers):
    """A word and numbers, parted by one blank."""
    return " ".join([word] + [str(number) for number in numbers])


def net_rows(net, ways):
    """The rows of a net and of ways that have been looked at."""
    kind, size = net
    rows = [row_of(kind, size if kind == "tree" else [size])]
    return rows + [row_of("way", way) for way in ways]


def net_text(net, ways, hues):
    """A net, ways, and hues where they are not None, as a text."""
    ties_of_each(net, ways)
    rows = net_rows(net, ways)
    if hues is not None:
        if clash(net, ways, hues) is not None:
            raise NoHues(None)
        rows.append(row_of("hues", hues))
    return "".join(f"{row}\n" for row in rows)


def net_of(kind, numbers):
    """The net that a kind and numbers tell, None where they tell none."""
    if kind != "tree" and len(numbers) != 1:
        return None
    net = (kind, numbers if kind == "tree" else numbers[0])
    return net if is_net(net) else None


def parted_row(row):
    """The first word of a row and the numbers behind it; no word where one of these is none."""
    word, *others = row.split(" ")
    if not all(is_number(other) for other in others):
        return ("", [])
    return (word, [int(other) for other in others])


class Reading:
    """What has been read of a text, row by row."""

    def __init__(self):
        self.net = None
        self.laid = []
        self.worn = None

    def take_way(self, numbers):
        if len(self.laid) >= MOST_WAYS or len(numbers) != 2 or not is_way(self.net, numbers):
            return False
        self.laid.append((numbers[0], numbers[1]))
        return True

    def take_hues(self, numbers):
        if clash(self.net, self.laid, numbers) is not None:
            return False
        self.worn = numbers
        return True

    def take_row(self, row):
        """Take one row more, and tell whether it may stand there."""
        word, numbers = parted_row(row)
        if self.net is None:
            self.net = net_of(word, numbers)
            return self.net is not None
        # Nothing stands behind the hues.
        if self.worn is not None:
            return False
        if word == "way":
            return self.take_way(numbers)
        return word == "hues" and self.take_hues(numbers)


def read_net(text):
    """The net, the ways and the hues, None where there are none, that a text tells."""
    rows = text.split("\n")
    rest = rows.pop()
    reading = Reading()
    for at, row in enumerate(rows):
        if not reading.take_row(row):
            raise NoText(at)
    if rest or not rows:
        raise NoText(len(rows))
    return (reading.net, reading.laid, reading.worn)
