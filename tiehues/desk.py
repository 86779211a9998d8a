"""A desk with nets by names, which answers rows of words."""

from tiehues.both import turned_hues, turned_judged
from tiehues.errors import NoName, NoNet, NoNumber, NoRow, NoWay, OtherNet, TooMany
from tiehues.fewest import fewest, fewest_judged
from tiehues.givers import Giver
from tiehues.nets import MOST_WAYS, is_way, load
from tiehues.papers import told_of
from tiehues.texts import is_number, net_of, net_rows
from tiehues.turning import least_load

KINDS = ("line", "ring", "tree")
MOST_LETTERS = 8
LETTERS = "abcdefghijklmnopqrstuvwxyz"
# How many words a row has by its first one; those with an open end may have more.
COUNTS = {
    "line": 3, "ring": 3, "tree": 3, "way": 4, "back": 2, "drop": 2, "names": 1, "show": 2, "load": 2, "given": 2,
    "fewest": 2, "best": 2, "turn": 2, "both": 2, "judge": 3,
}
OPEN_ENDED = ("tree", "judge")


class Stand:
    """A net with the ways put to it, and on a line the giver of their hues."""

    def __init__(self, net):
        self.net = net
        self.laid = []
        self.giver = Giver(net) if net[0] == "line" else None

    def lay(self, way):
        """Put a way to the net and tell what is answered: its hue on a line."""
        self.laid.append(way)
        return "ok" if self.giver is None else str(self.giver.put(way))


def put_way(stand, numbers):
    """Put the way from one place to another to a net."""
    a, b = numbers
    if not is_way(stand.net, (a, b)):
        raise NoWay(0)
    if len(stand.laid) >= MOST_WAYS:
        raise TooMany(f"no more than {MOST_WAYS} ways")
    return stand.lay((a, b))


def without_last(stand):
    """The same net with all ways but the last one, each put anew."""
    if not stand.laid:
        raise NoWay(0)
    fresh = Stand(stand.net)
    for way in stand.laid[:-1]:
        fresh.lay(way)
    return fresh


def list_text(numbers):
    return " ".join([str(number) for number in numbers])


def show(stand):
    return ", ".join(net_rows(stand.net, stand.laid))


def tell_load(stand):
    return str(load(stand.net, stand.laid))


def tell_given(stand):
    if stand.giver is None:
        raise OtherNet("hues are given on a line only")
    return list_text(stand.giver.hues())


def tell_fewest(stand):
    h, hues, paper = fewest(stand.net, stand.laid)
    return str(h)


def tell_best(stand):
    h, hues, paper = fewest(stand.net, stand.laid)
    return list_text(hues)


def tell_turn(stand):
    heaviest, turning, paper = least_load(stand.net, stand.laid)
    return list_text([heaviest] + turning)


def tell_both(stand):
    h, turning, hues, paper = turned_hues(stand.net, stand.laid)
    return str(h)


ANSWERS = {
    "show": show, "load": tell_load, "given": tell_given, "fewest": tell_fewest, "best": tell_best, "turn": tell_turn,
    "both": tell_both,
}


def judge(stand, text):
    """Whether what a text tells is right for a net."""
    told = told_of(text)
    if len(told) == 3:
        wrong = fewest_judged(stand.net, stand.laid, told)
    else:
        wrong = turned_judged(stand.net, stand.laid, told)
    return "right" if wrong is None else wrong[0]


def look_row(words):
    word = words[0]
    if word not in COUNTS:
        raise NoRow("no row begins so")
    if len(words) < COUNTS[word] or len(words) > COUNTS[word] and word not in OPEN_ENDED:
        raise NoRow("another count of words")


def look_name(name):
    if not 1 <= len(name) <= MOST_LETTERS or any(sign not in LETTERS for sign in name):
        raise NoName("a name is one to eight small letters")


def numbers_of(words):
    if not all(is_number(word) for word in words):
        raise NoNumber("no number in figures")
    return [int(word) for word in words]


class Desk:
    """Nets by names, without any at first."""

    def __init__(self):
        self.stands = {}

    def say(self, row):
        """Answer a row with a text."""
        words = row.split(" ")
        look_row(words)
        if words == ["names"]:
            return " ".join(sorted(self.stands))
        word, name, *others = words
        look_name(name)
        if word in KINDS:
            return self.put_net(word, name, others)
        if name not in self.stands:
            raise NoName("no net stands by this name")
        return self.answer(word, name, others)

    def answer(self, word, name, others):
        """Answer what is asked of the net that stands by a name."""
        stand = self.stands[name]
        if word == "way":
            return put_way(stand, numbers_of(others))
        if word == "back":
            self.stands[name] = without_last(stand)
            return "ok"
        if word == "drop":
            del self.stands[name]
            return "ok"
        if word == "judge":
            return judge(stand, " ".join(others))
        tell = ANSWERS[word]
        return tell(stand)

    def put_net(self, kind, name, others):
        net = net_of(kind, numbers_of(others))
        if net is None:
            raise NoNet("no line, ring or tree of a size that is told")
        self.stands[name] = Stand(net)
        return "ok"
