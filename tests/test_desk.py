"""Points 27, 28 and 30: the desk, what it answers, what it refuses, and how it judges words."""

import random
import re
import unittest

from tests.samples import HUGE, ROUND, SIDES, drawn_ways, refusal
from tiehues.both import turned_hues, turned_judged
from tiehues.desk import Desk
from tiehues.fewest import fewest, fewest_judged
from tiehues.givers import Giver
from tiehues.nets import load, look_net, ties_of
from tiehues.papers import told_of, told_words
from tiehues.texts import net_text
from tiehues.turning import least_load

NETS = {"line a 6": ("line", 6), "ring b 5": ("ring", 5), "tree c 0 0 0 1": ("tree", [0, 0, 0, 1])}
ASKED = ["show", "load", "given", "fewest", "best", "turn", "both", "back", "drop"]
WORDS = ["line", "ring", "tree", "way", "names", "judge"] + ASKED
BAD_NAMES = ["", "A", "aB", "a1", "1", "a_b", "a-b", "abcdefghi", "abcdefghijklmnop", "a.", "~", "a\n", "\n", "a\tb"]
BAD_NUMBERS = ["", "00", "01", "-1", "+1", "x", "1x", "1.0", "1_0", "9" * 31, "1" + "0" * 30, "5\n", "\n", "0x1"]


def desk_with(*rows):
    desk = Desk()
    for row in rows:
        desk.say(row)
    return desk


def way_rows(name, ways):
    return [f"way {name} {a} {b}" for a, b in ways]


def state(desk):
    """All that can be asked of a desk without changing it."""
    found = {"names": desk.say("names")}
    for name in found["names"].split():
        for word in ASKED[:-2]:
            row = f"{word} {name}"
            found[row] = refusal(desk.say, row) or desk.say(row)
    return found


class Case(unittest.TestCase):
    def says(self, desk, row, told):
        found = desk.say(row)
        self.assertIs(type(found), str)
        self.assertEqual(found, told, row)

    def refuses(self, desk, row, *told):
        """What is refused has its class and value, and changes nothing."""
        before = state(desk)
        self.assertEqual(refusal(desk.say, row), told, row)
        self.assertEqual(state(desk), before, row)


class Answers(Case):
    def test_nets(self):
        for row, net in NETS.items():
            desk = Desk()
            name = row.split()[1]
            self.says(desk, row, "ok")
            self.says(desk, "names", name)
            self.says(desk, f"show {name}", net_text(net, [], None)[:-1])
            self.says(desk, f"load {name}", "0")
            self.says(desk, f"fewest {name}", "0")
            self.says(desk, f"best {name}", "")

    def test_without_ways(self):
        desk = desk_with(*NETS)
        self.says(desk, "given a", "")
        self.says(desk, "turn b", "0")
        self.says(desk, "both b", "0")

    def test_no_names(self):
        self.says(Desk(), "names", "")

    def test_names_are_sorted(self):
        desk = desk_with("line b 2", "ring abcdefgh 3", "tree z 0", "line a 5", "line ab 5", "line aa 5")
        self.says(desk, "names", "a aa ab abcdefgh b z")

    def test_sizes(self):
        desk = Desk()
        for row in ("line x 2", "line x 60", "ring x 3", "ring x 60", "tree x 0", "tree x" + " 0" * 59,
                    "tree x 0 1 2 0"):
            self.says(desk, row, "ok")
            word, name, *numbers = row.split()
            self.says(desk, "show x", " ".join([word] + numbers))

    def test_hues_on_a_line(self):
        desk = desk_with("line abcdefgh 60")
        giver = Giver(("line", 60))
        for way in drawn_ways(("line", 60), 40, 1):
            self.says(desk, f"way abcdefgh {way[0]} {way[1]}", str(giver.put(way)))
            self.says(desk, "given abcdefgh", " ".join(str(hue) for hue in giver.hues()))

    def test_ways_on_other_nets(self):
        for row in ("ring b 5", "tree b 0 0 0 1"):
            desk = desk_with(row)
            for way in drawn_ways(("ring", 5), 40, 2):
                self.says(desk, f"way b {way[0]} {way[1]}", "ok")

    def test_show(self):
        desk = desk_with("ring b 5", "way b 0 2", "way b 4 1")
        self.says(desk, "show b", "ring 5, way 0 2, way 4 1")
        desk = desk_with("tree c 0 0 0 1", "way c 4 2")
        self.says(desk, "show c", "tree 0 0 0 1, way 4 2")

    def test_by_hand(self):
        desk = desk_with("ring r 5", *way_rows("r", ROUND))
        self.says(desk, "load r", "2")
        self.says(desk, "fewest r", "3")
        self.says(desk, "both r", "3")
        self.says(desk, "turn r", "2 " + " ".join(str(turn) for turn in least_load(("ring", 5), ROUND)[1]))
        desk = desk_with("tree t 0 0 0", *way_rows("t", SIDES))
        self.says(desk, "fewest t", "3")
        self.assertEqual(sorted(desk.say("best t").split(" ")), ["0", "1", "2"])

    def test_as_the_stages_tell(self):
        for row, net in NETS.items():
            name = row.split()[1]
            for many in (1, 4, 6, 12):
                ways = drawn_ways(net, many, many)
                desk = desk_with(row, *way_rows(name, ways))
                h, hues, paper = fewest(net, ways)
                self.says(desk, f"show {name}", ", ".join(net_text(net, ways, None).split("\n")[:-1]))
                self.says(desk, f"load {name}", str(load(net, ways)))
                self.says(desk, f"fewest {name}", str(h))
                self.says(desk, f"best {name}", " ".join(str(hue) for hue in hues))
                if net[0] == "ring":
                    heaviest, turning, paper = least_load(net, ways)
                    self.says(desk, f"turn {name}", " ".join(str(part) for part in [heaviest] + turning))
                    if many < 7:
                        self.says(desk, f"both {name}", str(turned_hues(net, ways)[0]))

    def test_a_net_in_the_place_of_an_elder_one(self):
        desk = desk_with(*NETS, *way_rows("a", [(0, 2), (1, 3)]), "way b 0 1")
        for row in ("line a 6", "ring a 9", "tree a 0 1", "line a 6", "line a 3"):
            self.says(desk, row, "ok")
            self.says(desk, "names", "a b c")
            self.says(desk, "show a", row.replace(" a", ""))
            self.says(desk, "load a", "0")
            self.says(desk, "show b", "ring 5, way 0 1")
            desk.say("way a 0 1")
        self.says(desk, "given a", "0")

    def test_drop(self):
        desk = desk_with(*NETS, "way a 0 1")
        self.says(desk, "drop a", "ok")
        self.says(desk, "names", "b c")
        self.refuses(desk, "show a", "NoName")
        self.refuses(desk, "drop a", "NoName")
        self.says(desk, "line a 4", "ok")
        self.says(desk, "show a", "line 4")
        for name in "abc":
            self.says(desk, f"drop {name}", "ok")
        self.says(desk, "names", "")

    def test_two_desks(self):
        first, second = Desk(), Desk()
        first.say("line a 5")
        self.says(second, "names", "")
        second.say("line a 5")
        self.says(first, "way a 0 3", "0")
        self.says(first, "way a 0 3", "1")
        self.says(second, "way a 0 3", "0")
        self.says(second, "show a", "line 5, way 0 3")
        self.says(first, "drop a", "ok")
        self.says(second, "load a", "1")


class Back(Case):
    def test_down_to_no_ways_and_once_more(self):
        for row, net in NETS.items():
            name = row.split()[1]
            ways = drawn_ways(net, 9, 3)
            desk = desk_with(row)
            seen = [state(desk)]
            for way in ways:
                desk.say(f"way {name} {way[0]} {way[1]}")
                seen.append(state(desk))
            for turn in range(9):
                self.assertEqual(state(desk), seen.pop())
                self.says(desk, f"back {name}", "ok")
            self.assertEqual(state(desk), seen.pop())
            for turn in range(3):
                self.refuses(desk, f"back {name}", "NoWay", 0)
            again = [desk.say(f"way {name} {a} {b}") for a, b in ways]
            fresh = desk_with(row)
            self.assertEqual([fresh.say(f"way {name} {a} {b}") for a, b in ways], again)

    def test_as_if_it_had_never_come(self):
        drawn = random.Random(4)
        for turn in range(20):
            desk, giver, kept = desk_with("line a 12"), Giver(("line", 12)), []
            for step in range(40):
                if kept and drawn.random() < 0.4:
                    self.says(desk, "back a", "ok")
                    kept.pop()
                    giver = Giver(("line", 12))
                    for way in kept:
                        giver.put(way)
                else:
                    way = tuple(drawn.sample(range(12), 2))
                    kept.append(way)
                    self.says(desk, f"way a {way[0]} {way[1]}", str(giver.put(way)))
                self.says(desk, "given a", " ".join(str(hue) for hue in giver.hues()))

    def test_room_again_behind_forty(self):
        for row in NETS:
            name = row.split()[1]
            desk = desk_with(row, *[f"way {name} 0 1"] * 40)
            self.refuses(desk, f"way {name} 0 1", "TooMany")
            self.says(desk, f"back {name}", "ok")
            self.assertIsNone(refusal(desk.say, f"way {name} 1 2"))
            self.refuses(desk, f"way {name} 1 2", "TooMany")


class NoRows(Case):
    def test_other_words(self):
        desk = desk_with(*NETS, "way a 0 1")
        for row in ("", " ", "  ", "a", "Line x 5", "LINE x 5", "lines x 5", "ways a 0 1", "Names", "name", "hues a",
                    "5",
                    "line\tx 5", "names\n", "\n", "show,a", "shows a", "right a", "put a 0 1", "turned b", "tie a"):
            self.refuses(desk, row, "NoRow")

    def test_counts_of_words(self):
        desk = desk_with(*NETS, "way a 0 1")
        rows = ["line", "line x", "line x 5 5", "ring", "ring x", "ring x 5 5", "tree", "tree x", "way", "way a",
                "way a 0",
                "way a 0 1 2", "names a", "names names", "judge", "judge a"]
        rows += [word + rest for word in ASKED for rest in ("", " a a", " a 0", " a b c")]
        for row in rows:
            self.refuses(desk, row, "NoRow")

    def test_a_wrong_count_goes_ahead_of_all(self):
        desk = desk_with(*NETS)
        for row in ("line A x y", "ring 1 2 3", "way A 0", "show A A", "back zz zz", "way zz x y z", "drop", "judge A"):
            self.refuses(desk, row, "NoRow")

    def test_blanks(self):
        desk = desk_with(*NETS, "way a 0 1")
        for row in ("names", "show a", "line x 5", "way a 0 1", "tree x 0 0", "back a", "judge a 0 hues by none"):
            self.refuses(desk, " " + row, "NoRow")
            if row.split()[0] not in ("tree", "judge"):
                self.refuses(desk, row + " ", "NoRow")
                self.refuses(desk, row.replace(" ", "  ") + "  ", "NoRow")
        for row in ("line  x 5", "line x  5", "way  a 0 1", "way a 0  1", "show  a", "names ", "drop  a"):
            self.refuses(desk, row, "NoRow")
        # Where a row may go on, a word without signs is a word like others.
        self.refuses(desk, "tree  x 0", "NoName")
        self.refuses(desk, "tree x  0", "NoNumber")
        self.refuses(desk, "tree x 0 ", "NoNumber")
        self.refuses(desk, "tree x ", "NoNumber")
        self.refuses(desk, "tree  x", "NoName")
        self.refuses(desk, "judge  a", "NoName")
        self.refuses(desk, "judge a ", "NoText", 0)
        # As many words as there should be, one of them without signs.
        self.refuses(desk, "line  5", "NoName")
        self.refuses(desk, "line x ", "NoNumber")
        self.refuses(desk, "show ", "NoName")
        self.refuses(desk, "way a  1", "NoNumber")
        self.refuses(desk, "way  0 1", "NoName")


class NoNames(Case):
    def test_names_that_are_none(self):
        desk = desk_with(*NETS, "way a 0 1")
        for name in BAD_NAMES:
            for row in ("line {} 5", "ring {} 5", "tree {} 0", "way {} 0 1", "judge {} 0 hues by none", "judge {} x",
                        "line {} x", "way {} x y", "tree {} 5", "line {} 1", *[word + " {}" for word in ASKED]):
                self.refuses(desk, row.replace("{}", name), "NoName")

    def test_unknown_names(self):
        desk = desk_with(*NETS, "way a 0 1")
        for name in ("d", "aa", "abcdefgh", "names"):
            for row in ("way {} 0 1", "way {} x y", "way {} 0 0", "judge {} 0 hues by none", "judge {} x",
                        *[word + " {}" for word in ASKED]):
                self.refuses(desk, row.replace("{}", name), "NoName")

    def test_names_of_one_and_of_eight_letters(self):
        for name in ("a", "z", "abcdefgh", "zzzzzzzz", "names", "line"):
            desk = Desk()
            self.says(desk, f"ring {name} 3", "ok")
            self.says(desk, "names", name)
            self.says(desk, f"way {name} 0 1", "ok")
            self.says(desk, f"show {name}", "ring 3, way 0 1")
            self.says(desk, f"judge {name} 1 hues 0 by tie 0", "right")
            self.says(desk, f"drop {name}", "ok")


class OtherRefusals(Case):
    def test_numbers(self):
        desk = desk_with(*NETS, "way a 0 1")
        for word in BAD_NUMBERS:
            for row in ("line x {}", "ring x {}", "tree x {}", "tree x 0 {}", "tree x 9 {}", "tree x {} 9",
                        "way a {} 1",
                        "way a 0 {}", "way b 9 {}", "way c {} {}", "line a {}"):
                self.refuses(desk, row.replace("{}", word), "NoNumber")

    def test_nets(self):
        desk = desk_with(*NETS, "way a 0 1")
        for row in ("line x 1", "line x 61", "line x 0", f"line x {HUGE}", "ring x 2", "ring x 61", "tree x 1",
                    "tree x 0 2",
                    "tree x" + " 0" * 60, "line a 1", "ring a 2", "tree a 5", "tree x 0 " + "9" * 30):
            self.refuses(desk, row, "NoNet")

    def test_other_nets(self):
        desk = desk_with(*NETS, "way a 0 1", "way b 0 1", "way c 0 1")
        for row in ("given b", "given c", "turn a", "turn c", "both a", "both c"):
            self.refuses(desk, row, "OtherNet")
        desk = desk_with(*NETS, *["way a 0 1"] * 40, *["way c 0 1"] * 40)
        for row in ("given c", "turn a", "turn c", "both a", "both c"):
            self.refuses(desk, row, "OtherNet")

    def test_ways(self):
        desk = desk_with(*NETS)
        for name, many in (("a", 6), ("b", 5), ("c", 5)):
            for turn in range(3):
                for a, b in ((0, 0), (many, 0), (0, many), (many - 1, many - 1), (HUGE, 0), (0, HUGE)):
                    self.refuses(desk, f"way {name} {a} {b}", "NoWay", 0)
                desk.say(f"way {name} {many - 1} 0")

    def test_no_way_goes_ahead_of_too_many(self):
        desk = desk_with(*NETS, *[f"way {name} 0 1" for name in "abc"] * 40)
        for name in "abc":
            self.refuses(desk, f"way {name} 0 0", "NoWay", 0)
            self.refuses(desk, f"way {name} 99 0", "NoWay", 0)
            self.refuses(desk, f"way {name} x 0", "NoNumber")
            self.refuses(desk, f"way {name} 0 1", "TooMany")

    def test_too_many_for_the_stages(self):
        desk = desk_with(*NETS)
        for many in range(1, 17):
            for name in "abc":
                desk.say(f"way {name} 0 1")
                for word in ("fewest", "best"):
                    told = refusal(desk.say, f"{word} {name}")
                    self.assertEqual(told, None if many <= 12 else ("TooMany",))
            self.assertEqual(refusal(desk.say, "turn b"), None if many <= 14 else ("TooMany",))
            self.assertEqual(refusal(desk.say, "both b"), None if many <= 7 else ("TooMany",))
        self.says(desk, "load b", "16")

    def test_hues_given_stay(self):
        desk = desk_with("line a 5", "way a 0 3", "way a 1 4", "way a 2 3")
        given = desk.say("given a")
        for row in ("way a 0 0", "way a 9 0", "way a x 0", "way a 0", "turn a", "judge a x", "line a 1", "line a x",
                    "tree a 7", "ring A 5", "judge a 0 turn hues by none"):
            self.assertIsNotNone(refusal(desk.say, row), row)
            self.says(desk, "given a", given)
        fresh = desk_with("line a 5", "way a 0 3", "way a 1 4", "way a 2 3")
        self.assertEqual(desk.say("way a 0 4"), fresh.say("way a 0 4"))


class Judge(Case):
    def desk(self):
        return desk_with(
            "line a 6", *way_rows("a", [(0, 2), (1, 3)]), "ring b 5", *way_rows("b", ROUND),
            "tree c 0 0 0", *way_rows("c", SIDES), "ring e 4", "line f 3",
        )

    def test_right_words(self):
        desk = self.desk()
        for name, net, ways in (("a", ("line", 6), [(0, 2), (1, 3)]), ("b", ("ring", 5), ROUND),
                                ("c", ("tree", [0, 0, 0]), SIDES), ("e", ("ring", 4), []), ("f", ("line", 3), [])):
            self.says(desk, f"judge {name} " + told_words(fewest(net, ways)), "right")
            if net[0] == "ring":
                self.says(desk, f"judge {name} " + told_words(turned_hues(net, ways)), "right")

    def test_by_hand(self):
        desk = self.desk()
        self.says(desk, "judge a 2 hues 0 1 by tie 1", "right")
        self.says(desk, "judge a 2 hues 7 5 by tie 1", "right")
        self.says(desk, "judge a 2 hues 0 1 by case ( 0 ( 1 . ) )", "right")
        self.says(desk, "judge a 2 hues 0 1 by tie 0", "paper")
        self.says(desk, "judge a 2 hues 0 1 by tie 99", "paper")
        self.says(desk, "judge a 2 hues 0 1 by none", "paper")
        self.says(desk, "judge a 2 hues 0 1 by case .", "paper")
        self.says(desk, "judge a 2 hues 0 1 by turn = 0 0", "paper")
        self.says(desk, "judge a 2 hues 0 1 by lot 0 0 1 2", "paper")
        self.says(desk, "judge a 2 hues 0 0 by tie 1", "hues")
        self.says(desk, "judge a 1 hues 0 0 by tie 0", "hues")
        self.says(desk, "judge a 3 hues 0 1 2 by tie 1", "hues")
        self.says(desk, "judge a 2 hues by tie 1", "hues")
        self.says(desk, "judge c 3 hues 0 1 2 by lot 0 0 1 2", "right")
        self.says(desk, "judge c 3 hues 0 1 2 by lot 0", "paper")
        self.says(desk, "judge c 3 hues 0 1 2 by lot 1 0 1 2", "paper")
        self.says(desk, "judge e 0 hues by none", "right")
        self.says(desk, "judge e 0 turn hues by none", "right")
        self.says(desk, "judge e 0 turn 0 hues by none", "turning")
        self.says(desk, "judge e 0 turn hues 0 by none", "hues")
        self.says(desk, "judge e 0 turn hues by tie 0", "paper")
        self.says(desk, "judge b 3 turn 0 0 0 0 2 hues 0 1 0 1 2 by none", "turning")
        self.says(desk, "judge b 3 turn 0 0 0 0 0 hues 0 0 0 1 2 by none", "hues")
        self.says(desk, "judge b 3 turn 0 0 0 0 0 hues 0 1 0 1 2 by none", "paper")

    def test_bent_words(self):
        desk = self.desk()
        found = set()
        for name, net, ways in (("a", ("line", 6), [(0, 2), (1, 3)]), ("b", ("ring", 5), ROUND),
                                ("c", ("tree", [0, 0, 0]), SIDES), ("e", ("ring", 4), [])):
            tuples = [fewest(net, ways)] + ([turned_hues(net, ways)] if net[0] == "ring" else [])
            for words in [told_words(told).split(" ") for told in tuples]:
                for at in range(len(words)):
                    for word in ("0", "1", "2", "9", ".", "none", "tie"):
                        text = " ".join(words[:at] + [word] + words[at + 1:])
                        found.add(self.judged(desk, name, net, ways, text))
        self.assertEqual(found, {"right", "turning", "hues", "paper", None})

    def judged(self, desk, name, net, ways, text):
        if refusal(told_of, text):
            self.assertEqual(refusal(desk.say, f"judge {name} {text}"), ("NoText", 0))
            return None
        told = told_of(text)
        wrong = (fewest_judged if len(told) == 3 else turned_judged)(net, ways, told)
        self.says(desk, f"judge {name} {text}", "right" if wrong is None else wrong[0])
        return desk.say(f"judge {name} {text}")

    def test_words_that_are_none(self):
        desk = self.desk()
        for text in ("", " ", "x", "0", "0 hues", "0 hues by", "0 hues by none ", " 0 hues by none", "0  hues by none",
                     "0 hues by none none", "00 hues by none", "0 hues by case (", "0 hues by tie -1", "right", "\n",
                     "0 hues by none\n", "0 turn by none", "0 hues by case " + "( 0 " * 41 + ") " * 40 + ")"):
            for name in "abcef":
                self.refuses(desk, f"judge {name} {text}", "NoText", 0)

    def test_a_name_goes_ahead_then_words_then_judges(self):
        desk = self.desk()
        for rest in ("x", "0 hues by none", "0 turn hues by none", ""):
            self.refuses(desk, f"judge zz {rest}", "NoName")
            self.refuses(desk, f"judge A {rest}", "NoName")
        for name in "acf":
            self.refuses(desk, f"judge {name} 0 turn hues by none", "OtherNet")
            self.refuses(desk, f"judge {name} 0 turn hues by nothing", "NoText", 0)
        full = desk_with(*NETS, *[f"way {name} 0 1" for name in "abc"] * 13)
        for name in "abc":
            self.refuses(full, f"judge {name} 0 hues by none", "TooMany")
            self.refuses(full, f"judge {name} 0 hues by non", "NoText", 0)
        self.refuses(full, "judge b 0 turn hues by none", "TooMany")
        self.refuses(full, "judge a 0 turn hues by none", "OtherNet")
        eight = desk_with("ring b 5", *["way b 0 1"] * 8)
        self.refuses(eight, "judge b 0 turn hues by none", "TooMany")
        self.says(eight, "judge b 8 hues 0 1 2 3 4 5 6 7 by tie 0", "right")

    def test_it_changes_nothing(self):
        desk = self.desk()
        before = state(desk)
        for row in ("judge a 2 hues 0 1 by tie 1", "judge b 1 hues 0 by none", "judge e 0 turn hues by none"):
            desk.say(row)
            self.assertEqual(state(desk), before)


class Model:
    """Points 27, 28 and 30 read once more: tells an answer, or a refusal's name and value."""

    def __init__(self):
        self.nets = {}

    def say(self, row):
        words = re.split(" ", row)
        counts = {"line": 3, "ring": 3, "way": 4, "names": 1, **{word: 2 for word in ASKED}}
        word = words[0]
        if not (len(words) >= 3 if word in ("tree", "judge") else counts.get(word) == len(words)):
            return ("NoRow",)
        if word == "names":
            return " ".join(sorted(self.nets))
        name, rest = words[1], words[2:]
        makes = word in ("line", "ring", "tree")
        if not re.fullmatch("[a-z]{1,8}", name) or not makes and name not in self.nets:
            return ("NoName",)
        if word != "judge" and not all(re.fullmatch("0|[1-9][0-9]{0,29}", part) for part in rest):
            return ("NoNumber",)
        if makes:
            numbers = [int(part) for part in rest]
            net = (word, numbers if word == "tree" else numbers[0])
            if refusal(look_net, net):
                return ("NoNet",)
            self.nets[name] = (net, [])
            return "ok"
        return self.answer(word, name, rest)

    def answer(self, word, name, rest):
        net, ways = self.nets[name]
        if word == "way":
            way = (int(rest[0]), int(rest[1]))
            if refusal(ties_of, net, way):
                return ("NoWay", 0)
            if len(ways) == 40:
                return ("TooMany",)
            ways.append(way)
            return self.given(net, ways)[-1] if net[0] == "line" else "ok"
        if word == "back" and not ways:
            return ("NoWay", 0)
        if word == "back":
            ways.pop()
            return "ok"
        if word == "drop":
            del self.nets[name]
            return "ok"
        return self.told(word, net, list(ways), " ".join(rest))

    def given(self, net, ways):
        giver = Giver(net)
        return [str(giver.put(way)) for way in ways]

    def told(self, word, net, ways, text):
        if word == "given" and net[0] != "line":
            return ("OtherNet",)
        asked = {
            "show": lambda: ", ".join(net_text(net, ways, None).split("\n")[:-1]),
            "load": lambda: str(load(net, ways)),
            "given": lambda: " ".join(self.given(net, ways)),
            "fewest": lambda: str(fewest(net, ways)[0]),
            "best": lambda: " ".join(str(hue) for hue in fewest(net, ways)[1]),
            "turn": lambda: " ".join(str(part) for part in [least_load(net, ways)[0]] + least_load(net, ways)[1]),
            "both": lambda: str(turned_hues(net, ways)[0]),
            "judge": lambda: self.judged(net, ways, told_of(text)),
        }
        return refusal(asked[word]) or asked[word]()

    def judged(self, net, ways, told):
        wrong = (fewest_judged if len(told) == 3 else turned_judged)(net, ways, told)
        return "right" if wrong is None else wrong[0]


class AgainstTheModel(unittest.TestCase):
    def drawn_row(self, drawn):
        word = drawn.choice(WORDS + ["way"] * 14)
        name = drawn.choice(["a", "b", "c", "a", "b", "c", "dd", "A", ""])
        numbers = [drawn.choice(["0", "1", "2", "3", "4", "5", "7", "61", "01", "x", ""]) for turn in range(3)]
        small = [str(drawn.randint(0, 4)) for turn in range(2)]
        if word in ("line", "ring"):
            rest = drawn.choice([["5"], ["7"], numbers[:1], []])
        elif word == "tree":
            rest = drawn.choice([["0", "0", "1", "1"], ["0", "0", "0", "0"], numbers, []])
        elif word == "way":
            rest = small if drawn.random() < 0.9 else drawn.choice([numbers[:2], numbers, numbers[:1]])
        elif word == "judge":
            rest = drawn.choice(["0 hues by none", "1 hues 0 by tie 0", "2 turn 0 0 hues 0 1 by turn = 0 1",
                                 "x"]).split()
        else:
            rest = numbers[:1] if drawn.random() < 0.05 else []
        return " ".join([word] + ([] if word == "names" and drawn.random() < 0.9 else [name]) + rest)

    def test_drawn_rows(self):
        for seed in range(30):
            drawn = random.Random(seed)
            desk, model = Desk(), Model()
            for row in ("line a 5", "ring b 5", "tree c 0 0 1 1"):
                self.assertEqual((desk.say(row), model.say(row)), ("ok", "ok"))
            for step in range(150):
                row = self.drawn_row(drawn)
                told = refusal(Desk.say, desk, row) if isinstance(expected := model.say(row), tuple) else desk.say(row)
                self.assertEqual(told, expected, (seed, step, row))
