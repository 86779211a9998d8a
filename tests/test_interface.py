"""The document's interface: names and arguments."""

import importlib
import inspect
import unittest

FUNCTIONS = {
    "nets": {
        "look_net": ["net"], "ties_of": ["net", "way"], "loads": ["net", "ways"], "load": ["net", "ways"],
        "clash": ["net", "ways", "hues"], "used": ["hues"],
    },
    "lines": {"line_hues": ["net", "ways"]},
    "givers": {"Giver": ["net"], "shows": ["net", "ways", "lines"]},
    "forcer": {"next_way": ["ways", "hues"]},
    "crossings": {"cross_hues": ["crossing"], "lot_bound": ["crossing", "lot"], "best_lot": ["crossing"]},
    "trees": {
        "crossing_at": ["net", "ways", "place"], "tree_hues": ["net", "ways"], "join_hues": ["net", "ways", "lists"],
    },
    "cases": {"case_judged": ["net", "ways", "h", "case"], "case_of": ["net", "ways", "h"]},
    "rings": {"ring_hues": ["net", "ways"]},
    "fewest": {"fewest": ["net", "ways"], "fewest_judged": ["net", "ways", "told"]},
    "turning": {
        "turned": ["net", "ways", "turning"], "parted": ["net", "ways", "e", "f"],
        "turn_judged": ["net", "ways", "m", "paper"], "least_load": ["net", "ways"], "short_turning": ["net", "ways"],
    },
    "both": {"turned_hues": ["net", "ways"], "turned_judged": ["net", "ways", "told"]},
    "texts": {"net_text": ["net", "ways", "hues"], "read_net": ["text"]},
    "desk": {"Desk": []},
    "papers": {"told_words": ["told"], "told_of": ["text"]},
}
METHODS = {
    ("givers", "Giver"): {
        "put": ["self", "way"], "ways": ["self"], "hues": ["self"], "levels": ["self"],
        "own_tie": ["self", "number"],
    },
    ("desk", "Desk"): {"say": ["self", "row"]},
}


def arguments(function):
    return list(inspect.signature(function).parameters)


class Interface(unittest.TestCase):
    def test_functions(self):
        for file, names in FUNCTIONS.items():
            module = importlib.import_module(f"tiehues.{file}")
            for name, told in names.items():
                self.assertEqual(arguments(getattr(module, name)), told, (file, name))

    def test_methods_stand_in_the_class_itself(self):
        for (file, name), methods in METHODS.items():
            kind = getattr(importlib.import_module(f"tiehues.{file}"), name)
            for method, told in methods.items():
                self.assertEqual(arguments(vars(kind)[method]), told, (name, method))
