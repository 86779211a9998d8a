"""Point 26: nets, ways and hues as texts."""

import re
import unittest

from tests.samples import HUGE, NETS, SMALL_NETS, WRONG_NETS, drawn_ways, first_clash, places_of, refusal, wrong_ways
from tiehues.nets import look_net, ties_of
from tiehues.texts import net_text, read_net

GREATEST = 10 ** 30 - 1
BAD_NUMBERS = ["", "00", "01", "007", "-1", "+1", "-0", "1.0", "1_0", "0x1", "a", "1a", "x1", "1,", "\t1", "1\t", "--",
               "~"]


def some_hues(net, ways):
    """Right hues, among them great ones."""
    yield list(range(len(ways)))
    yield [3 * at + 7 for at in range(len(ways))]
    yield [GREATEST - at for at in range(len(ways))]


def is_beginning(rows):
    """Point 26 word by word: whether rows are a beginning of a text, each with what stands behind it."""
    number = "(0|[1-9][0-9]{0,29})"
    head = re.fullmatch(f"(line|ring) {number}\n|(tree)(( {number})+)\n", rows[0])
    if not head:
        return False
    net = (head[1], int(head[2])) if head[1] else ("tree", [int(word) for word in head[4].split()])
    if refusal(look_net, net):
        return False
    hues = rows[-1] if len(rows) > 1 and re.fullmatch(f"hues( {number})*\n", rows[-1]) else None
    ways = []
    for row in rows[1:] if hues is None else rows[1:-1]:
        found = re.fullmatch(f"way {number} {number}\n", row)
        if not found or refusal(ties_of, net, (int(found[1]), int(found[2]))):
            return False
        ways.append((int(found[1]), int(found[2])))
    right = hues is None or first_clash(net, ways, [int(word) for word in hues.split()[1:]]) is None
    return len(ways) <= 40 and right


def first_wrong_row(text):
    rows = re.findall("[^\n]*\n|[^\n]+", text)
    wrong = [at for at in range(len(rows)) if not is_beginning(rows[:at + 1])]
    return min(wrong, default=None if rows else 0)


def refused_at(text):
    told = refusal(read_net, text)
    return told[1] if told and told[0] == "NoText" else told


class NetText(unittest.TestCase):
    def test_by_hand(self):
        self.assertEqual(net_text(("line", 5), [], None), "line 5\n")
        self.assertEqual(net_text(("line", 5), [], []), "line 5\nhues\n")
        self.assertEqual(net_text(("ring", 60), [(59, 0)], None), "ring 60\nway 59 0\n")
        self.assertEqual(net_text(("ring", 3), [(0, 1), (2, 0)], [7, 0]), "ring 3\nway 0 1\nway 2 0\nhues 7 0\n")
        self.assertEqual(net_text(("tree", [0]), [], None), "tree 0\n")
        self.assertEqual(net_text(("tree", [0, 0, 2]), [(3, 1)], [0]), "tree 0 0 2\nway 3 1\nhues 0\n")
        self.assertEqual(net_text(("line", 2), [(1, 0)], [GREATEST]), "line 2\nway 1 0\nhues " + "9" * 30 + "\n")

    def test_rows(self):
        for net in NETS:
            for many in (0, 1, 40):
                ways = drawn_ways(net, many, 1)
                head = " ".join([net[0]] + [str(part) for part in (net[1] if net[0] == "tree" else [net[1]])])
                rows = [head] + [f"way {a} {b}" for a, b in ways]
                self.assertEqual(net_text(net, ways, None), "".join(row + "\n" for row in rows))
                for hues in some_hues(net, ways):
                    rows.append(" ".join(["hues"] + [str(hue) for hue in hues]))
                    self.assertEqual(net_text(net, ways, hues), "".join(row + "\n" for row in rows))
                    rows.pop()

    def test_no_hues(self):
        ways = [(0, 2), (1, 3), (3, 4)]
        for hues in ([], [0], [0, 1], [0, 1, 2, 3], [0, 0, 1], [0, 1, -1], [-HUGE, 0, 1], [HUGE, HUGE, 0]):
            self.assertEqual(refusal(net_text, ("line", 5), ways, hues), ("NoHues", None), hues)
        for hues in ([0, 1, 1], [0, 1, 0], [5, 2, HUGE], None):
            self.assertIsNone(refusal(net_text, ("line", 5), ways, hues))
        for hues in ([0], [-1], [0, 1]):
            self.assertEqual(refusal(net_text, ("ring", 5), [], hues), ("NoHues", None))

    def test_order_of_refusals(self):
        for hues in (None, [], [0], [-1, 0]):
            for ways in ([], [(0, 1)], [(0, 0)]):
                for net in WRONG_NETS:
                    self.assertEqual(refusal(net_text, net, ways, hues), ("NoNet",))
            for net in SMALL_NETS:
                for way in wrong_ways(net):
                    for at in (0, 1, 38):
                        ways = [(0, 1)] * at + [way, (0, 0)]
                        self.assertEqual(refusal(net_text, net, ways, hues), ("NoWay", at))


class ReadAgain(unittest.TestCase):
    def check(self, net, ways, hues):
        text = net_text(net, ways, hues)
        told = read_net(text)
        self.assertEqual(told, (net, ways, hues))
        self.assertEqual([type(part) for part in told], [tuple, list, type(hues)])
        self.assertEqual([type(way) for way in told[1]], [tuple] * len(ways))
        self.assertEqual(net_text(*told), text)

    def test_what_net_text_tells(self):
        for net in NETS:
            for many in (0, 1, 7, 40):
                ways = drawn_ways(net, many, 2)
                self.check(net, ways, None)
                for hues in some_hues(net, ways):
                    self.check(net, ways, hues)

    def test_hues_that_come_again(self):
        self.check(("line", 5), [(0, 1), (1, 2), (2, 3)], [4, 4, 4])
        self.check(("line", 5), [(0, 1), (1, 2), (2, 3)], [0, 0, GREATEST])

    def test_new_lists(self):
        text = "tree 0 0\nway 0 1\nhues 3\n"
        first = read_net(text)
        first[0][1].append(5)
        first[1].append((5, 5))
        first[2].append(5)
        self.assertEqual(read_net(text), (("tree", [0, 0]), [(0, 1)], [3]))


class OtherTexts(unittest.TestCase):
    def test_empty(self):
        self.assertEqual(refused_at(""), 0)
        for text in ("\n", " ", " \n", "\n\n", "line", "line\n", "x\n"):
            self.assertEqual(refused_at(text), 0, text)

    def test_first_row(self):
        wrong = [
            "star 5", "Line 5", "LINE 5", "lines 5", "line5", "line", "line ", "line 5 ", " line 5", "line  5",
            "line 5 5",
            "line 1", "line 61", "line 0", "line " + "9" * 30, "ring 2", "ring 61", "ring", "ring 5 0", "tree", "tree ",
            "tree 1", "tree 0 2", "tree 0  0", "tree 0 ", "tree  0", "tree" + " 0" * 60, "way 0 1", "hues", "hues 0",
            "", " ",
            "5", "5 line", "line\t5", "line 5\t", "line 05", "ring 03", "tree 00", "tree 0 01",
        ]
        for row in wrong:
            for rest in ("\n", "", "\nway 0 1\n", "\nway 0 0\n", "\nhues\n", "\n\n"):
                self.assertEqual(refused_at(row + rest), 0, row)
        for row in ("line 2", "line 60", "ring 3", "ring 60", "tree 0", "tree" + " 0" * 59):
            self.assertEqual(refused_at(row), 0)
            self.assertIsNone(refused_at(row + "\n"))

    def test_bad_numbers(self):
        for word in BAD_NUMBERS + ["1" * 31, "9" * 31, "0" * 31, "1" * 999]:
            self.assertEqual(refused_at(f"line {word}\n"), 0, word)
            self.assertEqual(refused_at(f"ring {word}\n"), 0, word)
            self.assertEqual(refused_at(f"tree 0 {word}\n"), 0, word)
            self.assertEqual(refused_at(f"line 5\nway {word} 3\n"), 1, word)
            self.assertEqual(refused_at(f"line 5\nway 3 {word}\n"), 1, word)
            self.assertEqual(refused_at(f"line 5\nway 3 2\nhues {word}\n"), 2, word)
            self.assertEqual(refused_at(f"line 5\nway 0 1\nway 1 2\nhues 0 {word}\nhues\n"), 3, word)

    def test_thirty_figures(self):
        for word in ("1" * 30, "9" * 30, "1" + "0" * 29):
            self.assertEqual(read_net(f"line 5\nway 3 2\nhues {word}\n")[2], [int(word)])
            self.assertEqual(refused_at(f"line 5\nway 3 {word}\n"), 1)
            self.assertEqual(refused_at(f"line 5\nway 3 2\nhues {word}0\n"), 2)

    def test_way_rows(self):
        wrong = [
            "way", "way 0", "way 0 1 2", "way  0 1", "way 0  1", "way 0 1 ", " way 0 1", "Way 0 1", "ways 0 1",
            "way0 1",
            "way 0,1", "way 0 0", "way 0 5", "way 5 0", "way 4 4", "line 5", "ring 5", "tree 0", " ", "0 1", "hue 0",
        ]
        for row in wrong:
            for ahead in range(4):
                head = "line 5\n" + "way 1 0\n" * ahead
                for rest in ("\n", "", "\nway 0 1\n", "\n\n", "\nhues\n"):
                    self.assertEqual(refused_at(head + row + rest), 1 + ahead, row)

    def test_ways_that_are_none(self):
        for net in NETS:
            head = net_text(net, [], None)
            for a, b in wrong_ways(net):
                if min(a, b) >= 0:
                    self.assertEqual(refused_at(head + f"way {a} {b}\nway 0 0\n"), 1)
                    self.assertEqual(refused_at(head + f"way 0 1\nway {a} {b}\n"), 2)
            last = places_of(net) - 1
            self.assertIsNone(refused_at(head + f"way {last} 0\nway 0 {last}\n"))

    def test_too_many_ways(self):
        for net in NETS:
            head = net_text(net, [], None)
            self.assertEqual(len(read_net(head + "way 0 1\n" * 40)[1]), 40)
            for many in (41, 42, 60):
                self.assertEqual(refused_at(head + "way 0 1\n" * many), 41)
            self.assertEqual(refused_at(head + "way 0 1\n" * 40 + "way 0 1"), 41)
            self.assertEqual(refused_at(head + "way 0 1\n" * 40 + "way 0 0\n"), 41)
            self.assertEqual(refused_at(head + "way 0 0\n" + "way 0 1\n" * 40), 1)

    def test_line_ends(self):
        for text in ("line 5\nway 0 1\nway 1 2\nhues 0 0\n", "ring 3\nhues\n", "tree 0 0\nway 1 2\nway 0 1\nway 2 0\n"):
            rows = text.split("\n")[:-1]
            self.assertIsNone(refused_at(text))
            self.assertEqual(refused_at(text[:-1]), len(rows) - 1)
            self.assertEqual(refused_at(text + "\n"), len(rows))
            self.assertEqual(refused_at(text + " "), len(rows))
            self.assertEqual(refused_at("\n" + text), 0)
            for at in range(len(rows)):
                blank = rows[:at] + [""] + rows[at:]
                self.assertEqual(refused_at("".join(row + "\n" for row in blank)), at)
                joined = "".join(row + "\n" for row in rows[:at]) + rows[at] + " " + "".join(rows[at + 1:])
                self.assertEqual(refused_at(joined), at)

    def test_hues_that_are_not_right(self):
        head = "line 5\nway 0 2\nway 1 3\nway 3 4\n"
        for row in ("hues 0 1", "hues 0 1 2 3", "hues", "hues 0 0 1", "hues 0", "hues 1 1 1", "hues  0 1 1",
                    "hues 0 1 1 ",
                    "hues 0 1  1", "Hues 0 1 1", "hue 0 1 1", "hues 0 1 -1", "0 1 1", "hues 0,1,1"):
            for rest in ("\n", "", "\nhues 0 1 1\n"):
                self.assertEqual(refused_at(head + row + rest), 4, row)
        for row in ("hues 0 1 1", "hues 0 1 0", "hues 7 5 3"):
            self.assertIsNone(refused_at(head + row + "\n"))
        for row in ("hues 0", "hues ", "hues 0 1"):
            self.assertEqual(refused_at("ring 3\n" + row + "\n"), 1)

    def test_all_small_hues(self):
        ways = [(0, 2), (1, 3), (2, 0)]
        for net in (("ring", 4), ("line", 4)):
            head = net_text(net, ways, None)
            for code in range(27):
                hues = [code // 9, code // 3 % 3, code % 3]
                told = refused_at(head + "hues " + " ".join(str(hue) for hue in hues) + "\n")
                self.assertEqual(told, None if first_clash(net, ways, hues) is None else 4)

    def test_rows_behind_the_hues(self):
        for row in ("way 0 1", "hues", "hues 0", "line 5", "", " ", "x"):
            self.assertEqual(refused_at("line 5\nhues\n" + row + "\n"), 2)
            self.assertEqual(refused_at("line 5\nway 0 1\nhues 0\n" + row + "\n"), 3)
            self.assertEqual(refused_at("line 5\nway 0 1\nhues 0\n" + row + "\nway 0 0\n"), 3)

    def test_each_sign_changed(self):
        found = set()
        for text in ("tree 0 0 1\nway 3 2\nway 1 0\nhues 10 0\n", "ring 9\nway 0 8\nway 10 3\n", "line 31\nhues\n"):
            for at in range(len(text) + 1):
                for sign in ("x", "", "0", "1", "9", " ", "\n", "way 0 1\n", "hues", "hues\n", "~", "-"):
                    for other in (text[:at] + sign + text[at:], text[:at] + sign + text[at + 1:]):
                        self.assertEqual(refused_at(other), first_wrong_row(other), other)
                        found.add(refused_at(other))
        self.assertEqual(found, {None, 0, 1, 2, 3, 4})
