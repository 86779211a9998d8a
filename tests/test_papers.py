"""Point 29: what fewest and turned_hues tell, as words."""

import re
import unittest

from tests.readings import are_ints, bent, is_int
from tests.samples import HUGE, NETS, ODD_THINGS, RING, ROUND, SIDES, STAR, drawn_ways, refusal
from tiehues.both import turned_hues
from tiehues.cases import case_of
from tiehues.fewest import fewest
from tiehues.papers import told_of, told_words
from tiehues.turning import least_load

GREATEST = 10 ** 30 - 1
LEAF = ("ties", 0, 1)
PAPERS = [
    (("none",), "none"), (("tie", 0), "tie 0"), (("tie", GREATEST), "tie " + "9" * 30), (("lot", 4, []), "lot 4"),
    (("lot", 0, [0, 1, 2]), "lot 0 0 1 2"), (("lot", 7, [5, 5, HUGE]), f"lot 7 5 5 {HUGE}"),
    (("turn", LEAF), "turn = 0 1"),
    (("turn", ("ties", GREATEST, 0)), "turn = " + "9" * 30 + " 0"),
    (("turn", (3, LEAF, LEAF)), "turn ( 3 = 0 1 = 0 1 )"),
    (("turn", (0, (1, LEAF, ("ties", 2, 2)), (1, LEAF, LEAF))), "turn ( 0 ( 1 = 0 1 = 2 2 ) ( 1 = 0 1 = 0 1 ) )"),
    (("case", ()), "case ."), (("case", (0, [])), "case ( 0 )"), (("case", (5, [()])), "case ( 5 . )"),
    (("case", (HUGE, [(), (0, []), ()])), f"case ( {HUGE} . ( 0 ) . )"),
    (("case", (0, [(1, [(2, [(), ()]), ()]), (3, [])])), "case ( 0 ( 1 ( 2 . . ) . ) ( 3 ) )"),
]
LISTS = [[], [0], [1, 0], [0, 1, 1, 0], [HUGE, GREATEST, 0], [7] * 60]


def bracketed(deep):
    """A case with so many brackets in one another."""
    case = ()
    for turn in range(deep):
        case = (turn, [(), case, (0, [])] if turn else [case])
    return case


def turn_bracketed(deep):
    paper = LEAF
    for turn in range(deep):
        paper = (turn, paper, LEAF) if turn % 2 else (turn, LEAF, paper)
    return paper


def is_number(thing):
    return is_int(thing) and 0 <= thing <= GREATEST


def are_numbers(thing):
    return are_ints(thing) and all(is_number(part) for part in thing)


def is_case_form(thing, deep=40):
    if type(thing) is tuple and len(thing) == 0:
        return True
    if type(thing) is not tuple or len(thing) != 2 or not is_number(thing[0]) or type(thing[1]) is not list:
        return False
    return deep > 0 and all(is_case_form(child, deep - 1) for child in thing[1])


def is_turn_form(thing, deep=40):
    if type(thing) is not tuple or len(thing) != 3:
        return False
    if type(thing[0]) is str:
        return thing[0] == "ties" and is_number(thing[1]) and is_number(thing[2])
    return is_number(thing[0]) and deep > 0 and is_turn_form(thing[1], deep - 1) and is_turn_form(thing[2], deep - 1)


def is_paper_form(thing):
    if type(thing) is not tuple or not thing or type(thing[0]) is not str:
        return False
    word, *told = thing
    forms = {
        "none": [], "tie": [is_number], "lot": [is_number, are_numbers], "turn": [is_turn_form], "case": [is_case_form],
    }
    return word in forms and len(told) == len(forms[word]) and all(form(part) for form, part in zip(forms[word], told))


def is_told_form(thing):
    """Point 29 word by word: whether a thing is a tuple of the form told."""
    if type(thing) is not tuple or len(thing) not in (3, 4):
        return False
    h, *lists, paper = thing
    return is_number(h) and all(are_numbers(part) for part in lists) and is_paper_form(paper)


class Words(unittest.TestCase):
    def check(self, told, words=None):
        found = told_words(told)
        if words is not None:
            self.assertEqual(found, words)
        self.assertIs(type(found), str)
        again = told_of(found)
        self.assertEqual(again, told)
        self.assertEqual(repr(again), repr(told))

    def test_by_hand(self):
        self.check((0, [], ("none",)), "0 hues by none")
        self.check((0, [], [], ("none",)), "0 turn hues by none")
        self.check((2, [0, 1, 0], ("tie", 4)), "2 hues 0 1 0 by tie 4")
        self.check((3, [0, 1, 2], ("lot", 0, [0, 1, 2])), "3 hues 0 1 2 by lot 0 0 1 2")
        self.check((1, [0, 1], [0, 0], ("turn", ("ties", 0, 3))), "1 turn 0 1 hues 0 0 by turn = 0 3")
        self.check((1, [0], ("case", (0, []))), "1 hues 0 by case ( 0 )")

    def test_each_paper(self):
        for paper, words in PAPERS:
            for hues in LISTS:
                row = "".join(f" {hue}" for hue in hues)
                self.check((7, hues, paper), f"7 hues{row} by {words}")
                self.check((GREATEST, hues, paper), "9" * 30 + f" hues{row} by {words}")
                for turning in LISTS:
                    turns = "".join(f" {turn}" for turn in turning)
                    self.check((0, turning, hues, paper), f"0 turn{turns} hues{row} by {words}")

    def test_what_fewest_tells(self):
        kinds = set()
        for net in NETS:
            for many in (0, 1, 5, 12):
                for seed in range(4):
                    told = fewest(net, drawn_ways(net, many, seed))
                    kinds.add(told[2][0])
                    self.check(told)
        for net, ways in ((RING, ROUND), (RING, ROUND * 2), (STAR, SIDES * 3)):
            self.check(fewest(net, ways))
            kinds.add(fewest(net, ways)[2][0])
        self.assertEqual(kinds, {"none", "tie", "lot", "case"})

    def test_what_turned_hues_tells(self):
        kinds = set()
        for many in (3, 4, 5, 7, 10):
            for count in (0, 1, 4, 6):
                for seed in range(4):
                    told = turned_hues(("ring", many), drawn_ways(("ring", many), count, seed))
                    kinds.add(told[3][0])
                    self.check(told)
        told = turned_hues(RING, ROUND)
        self.check(told)
        self.assertEqual(kinds | {told[3][0]}, {"none", "turn", "case"})

    def test_cases_and_turn_papers(self):
        for h in range(3):
            self.check((h, [], ("case", case_of(RING, ROUND, h))))
        for seed in range(12):
            paper = least_load(("ring", 9), drawn_ways(("ring", 9), 9, seed))[2]
            self.check((5, [], ("turn", paper)))
            self.check((5, [], [], ("turn", paper)))

    def test_forty_brackets(self):
        for deep in (1, 2, 12, 39, 40):
            self.check((1, [0], ("case", bracketed(deep))))
            self.check((1, [0], [0], ("case", bracketed(deep))))
            self.check((1, [0], ("turn", turn_bracketed(deep))))
            self.check((1, [0], [0], ("turn", turn_bracketed(deep))))

    def test_long_lists(self):
        self.check((1, list(range(1200)), ("none",)))
        self.check((1, list(range(1200)), list(range(600)), ("lot", 3, list(range(900)))))
        self.check((1, [], ("case", (0, [()] * 1500))))
        self.check((1, [], ("case", (0, [(k, []) for k in range(900)]))))


class NoForms(unittest.TestCase):
    def refused(self, thing):
        self.assertEqual(refusal(told_words, thing), ("NoForm",), thing)

    def check(self, thing):
        self.assertEqual(refusal(told_words, thing), None if is_told_form(thing) else ("NoForm",), thing)
        if is_told_form(thing):
            self.assertEqual(repr(told_of(told_words(thing))), repr(thing))

    def test_numbers(self):
        for number in (-1, -HUGE, GREATEST + 1, 10 ** 31, 10 ** 40, True, False, None, "0", "", (), [], (0,), [0], "x"):
            for told in ((number, [], ("none",)), (0, [number], ("none",)), (0, [1, number], ("none",)),
                         (number, [], [], ("none",)), (0, [number], [], ("none",)), (0, [], [0, number], ("none",)),
                         (0, [], ("tie", number)), (0, [], ("lot", number, [])), (0, [], ("lot", 0, [number])),
                         (0, [], ("lot", 0, [0, 1, number])), (0, [], ("turn", ("ties", number, 0))),
                         (0, [], ("turn", ("ties", 0, number))), (0, [], ("turn", (number, LEAF, LEAF))),
                         (0, [], ("turn", (0, (number, LEAF, LEAF), LEAF))), (0, [], ("case", (number, []))),
                         (0, [], ("case", (0, [(), (number, [])])))):
                self.refused(told)

    def test_other_tuples(self):
        right = (0, [], ("none",))
        for told in (right[:2], right[:1], (), right + ([],), (0, [], [], [], ("none",)), list(right), [right],
                     (right,),
                     (0, (), ("none",)), (0, None, ("none",)), (0, "", ("none",)), (0, [], (), ("none",)),
                     (0, (), [], ("none",)), (0, [], "none"), (0, [], ["none"]), (0, [], None), (0, [], ()), None, "",
                     0):
            self.refused(told)

    def test_other_papers(self):
        wrong = [
            ("none", 0), ("None",), ("nothing",), ("tie",), ("tie", 0, 0), ("ties", 0, 0), ("lot",), ("lot", 0),
            ("lot", 0, ()), ("lot", 0, 0), ("lot", 0, 0, 0), ("lot", 0, [], []), ("lot", [], 0), ("turn",),
            ("turn", ()),
            ("turn", []), ("turn", LEAF, LEAF), ("turn", ("ties", 0)), ("turn", ("ties", 0, 0, 0)), ("turn", (0, LEAF)),
            ("turn", (0, LEAF, LEAF, LEAF)), ("turn", (0, LEAF, ())), ("turn", (0, (), LEAF)), ("turn", ("tie", 0, 0)),
            ("turn", ["ties", 0, 0]), ("turn", [0, LEAF, LEAF]), ("turn", ("=", 0, 0)), ("turn", (0, 0, 0)), ("case",),
            ("case", []), ("case", [0, []]), ("case", (0,)), ("case", (0, ())), ("case", (0, [], [])), ("case", (0, 0)),
            ("case", (0, [[]])), ("case", (0, [0])), ("case", (0, [None])), ("case", ([], 0)), ("case", (0, [(0, ())])),
            ("case", (), ()), ("case", 0), ("case", "."), ("by",), ("hues", []), (0,), (None,), ((),), ("",),
        ]
        for paper in wrong:
            self.refused((0, [], paper))
            self.refused((0, [], [], paper))

    def test_forty_one_brackets(self):
        for deep in (41, 42, 60):
            self.refused((1, [0], ("case", bracketed(deep))))
            self.refused((1, [0], ("turn", turn_bracketed(deep))))
            self.refused((1, [0], [0], ("case", (0, [(), bracketed(deep - 1)]))))
            self.refused((1, [0], [0], ("turn", (0, LEAF, turn_bracketed(deep - 1)))))

    def test_each_thing_bent(self):
        for paper, words in PAPERS:
            for told in ((2, [0, 1], paper), (2, [1, 0], [0, 1], paper)):
                for other in bent(told):
                    self.check(other)

    def test_other_kinds(self):
        for thing in ODD_THINGS:
            for told in (thing, (thing, [], ("none",)), (0, thing, ("none",)), (0, [], thing),
                         (0, thing, [], ("none",)),
                         (0, [], ("tie", thing)), (0, [], ("lot", 0, thing)), (0, [], ("lot", thing, [])),
                         (0, [], ("turn", thing)), (0, [], ("turn", (0, thing, LEAF))), (0, [], ("case", thing)),
                         (0, [], ("case", (0, thing))), (0, [], ("case", (0, [thing]))), (0, [], (thing,)),
                         (thing,) * 3):
                self.check(told)


class OtherTexts(unittest.TestCase):
    def refused(self, text):
        self.assertEqual(refusal(told_of, text), ("NoText", 0), text)

    def test_by_hand(self):
        wrong = [
            "", " ", "0", "hues by none", "0 hues", "0 by none", "0 hues by", "0 hues by none none", "0 hues by none ",
            " 0 hues by none", "0  hues by none", "0 hues  by none", "0 hues by  none", "0 Hues by none",
            "0 hues By none",
            "0 hues by None", "0 0 hues by none", "0 turn by none", "0 turn hues", "turn hues by none",
            "0 hues turn by none",
            "0 turn turn hues by none", "0 turn 0 turn 1 hues by none", "0 hues 0 hues 1 by none", "0 hues by by none",
            "0 hues by tie", "0 hues by tie x", "0 hues by tie 0 0", "0 hues by lot", "0 hues by lot x",
            "0 hues by lot 0 x",
            "0 hues by turn", "0 hues by turn =", "0 hues by turn = 0", "0 hues by turn = 0 0 0", "0 hues by turn 0 0",
            "0 hues by turn ( 0 = 0 0 )", "0 hues by turn ( 0 = 0 0 = 0 0", "0 hues by turn ( 0 = 0 0 = 0 0 ) )",
            "0 hues by turn ( 0 = 0 0 = 0 0 = 0 0 )", "0 hues by turn ( = 0 0 = 0 0 )", "0 hues by turn 0 = 0 0 = 0 0",
            "0 hues by turn .", "0 hues by turn ( 0 . . )", "0 hues by turn ties 0 0", "0 hues by case",
            "0 hues by case (",
            "0 hues by case ( )", "0 hues by case ( 0", "0 hues by case ( 0 ) )", "0 hues by case . .",
            "0 hues by case 0",
            "0 hues by case ( 0 0 )", "0 hues by case ( . )", "0 hues by case ( 0 .", "0 hues by case ( 0 ( ) )",
            "0 hues by case (0)", "0 hues by case ( 0. )", "0 hues by case ( 0 ..)", "0 hues by case = 0 0",
            "0 hues by case )",
            "0 hues by case ( 0 = 0 0 )", "0 hues by none\n", "0\nhues by none", "\n", "0 hues by case ( 0 )\n",
            "right",
        ]
        for text in wrong:
            self.refused(text)

    def test_numbers(self):
        for word in ("", "00", "01", "-1", "+1", "-0", "1_0", "1.0", "x", "1x", "9" * 31, "1" + "0" * 30, "0" * 30,
                     "\n"):
            for text in ("{} hues by none", "0 hues {} by none", "0 hues 1 {} by none", "0 turn {} hues by none",
                         "0 turn 0 {} 1 hues by none", "0 hues by tie {}", "0 hues by lot {}", "0 hues by lot 0 1 {}",
                         "0 hues by turn = {} 0", "0 hues by turn = 0 {}", "0 hues by turn ( {} = 0 0 = 0 0 )",
                         "0 hues by case ( {} )", "0 hues by case ( 0 ( {} . ) )"):
                self.refused(text.replace("{}", word))
                self.assertIsNone(refusal(told_of, text.replace("{}", "9" * 30)))
                self.assertIsNone(refusal(told_of, text.replace("{}", "0")))

    def test_brackets(self):
        for deep in (41, 42, 60, 900):
            self.refused("0 hues by case " + "( 0 " * deep + ") " * (deep - 1) + ")")
            self.refused("0 hues by case " + "( 0 " * deep)
            self.refused("0 hues by turn " + "( 0 " * deep + "= 0 0 " + "= 0 0 ) " * (deep - 1) + "= 0 0 )")
            self.refused("0 hues by turn " + "( 0 = 0 0 " * deep + "= 0 0 " + ") " * (deep - 1) + ")")
            self.refused("0 hues by turn " + "( 0 " * deep)
        for deep in (1, 40):
            self.assertIsNone(refusal(told_of, "0 hues by case " + "( 0 " * deep + ") " * (deep - 1) + ")"))
            text = "0 hues by turn " + "( 0 " * deep + "= 0 0 " + "= 0 0 ) " * (deep - 1) + "= 0 0 )"
            self.assertIsNone(refusal(told_of, text))
            self.refused("0 hues by case " + "( 0 " * deep + ") " * deep + ")")
        # Brackets beside one another are as many as there may be.
        self.assertIsNone(refusal(told_of, "0 hues by case ( 0 " + "( 1 . ) " * 300 + ")"))

    def test_each_word_changed(self):
        kept = 0
        for paper, row in PAPERS:
            for told in ((2, [0, 1], paper), (2, [1, 0], [0, 1], paper)):
                words = told_words(told).split(" ")
                for at in range(len(words) + 1):
                    for word in ("0", "00", "", "hues", "turn", "by", "(", ")", ".", "=", "none", "tie", "x"):
                        for other in (words[:at] + [word] + words[at:], words[:at] + [word] + words[at + 1:],
                                      words[:at] + words[at + 1:]):
                            kept += self.read_or_refused(" ".join(other))
        self.assertGreater(kept, 100)

    def read_or_refused(self, text):
        """Whatever is read is read as what has just these words: no text but one tells a tuple."""
        told = refusal(told_of, text)
        if told is None:
            self.assertTrue(is_told_form(told_of(text)), text)
            self.assertEqual(told_words(told_of(text)), text)
            return True
        self.assertEqual(told, ("NoText", 0), text)
        return False

    def test_signs(self):
        for paper, row in PAPERS:
            text = told_words((2, [0, 1], paper))
            for at in range(len(text) + 1):
                for sign in (" ", "\n", "0", "x", "~", ""):
                    self.read_or_refused(text[:at] + sign + text[at:])
                    self.read_or_refused(text[:at] + sign + text[at + 1:])

    def test_words_are_plain(self):
        for paper, row in PAPERS:
            self.assertTrue(re.fullmatch(r"[0-9a-z.()=]+( [0-9a-z.()=]+)*", told_words((2, [0], paper))))
