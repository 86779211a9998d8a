import unittest

from tests.samples import HUGE
from tiehues import errors

PLAIN = [
    "NoNet", "OtherNet", "TooMany", "NoCrossing", "NoLot", "NoPlace", "NoNumber", "NoTurning", "NoTie",
    "NoRow", "NoName", "NoForm",
]
KEEPING = {"NoWay": "at", "NoHues": "place", "NoText": "row"}
NAMES = PLAIN + list(KEEPING)


def made(name):
    return getattr(errors, name)(None) if name in KEEPING else getattr(errors, name)()


class Errors(unittest.TestCase):
    def test_any_refusal_is_a_value_error(self):
        self.assertEqual(errors.TieError.__bases__, (ValueError,))

    def test_each_stands_straight_under_tie_error(self):
        for name in NAMES:
            self.assertEqual(getattr(errors, name).__bases__, (errors.TieError,), name)

    def test_each_is_caught_as_tie_error_and_value_error(self):
        for name in NAMES:
            for caught in (errors.TieError, ValueError):
                with self.assertRaises(caught):
                    raise made(name)

    def test_none_is_caught_by_another_name(self):
        for name in NAMES:
            for other in NAMES:
                self.assertEqual(isinstance(made(name), getattr(errors, other)), name == other, (name, other))

    def test_values_are_kept(self):
        for name, value in KEEPING.items():
            for told in (None, 0, 1, 39, -1, HUGE, -HUGE):
                self.assertEqual(getattr(getattr(errors, name)(told), value), told, name)

    def test_each_object_has_its_own_value(self):
        first, second = errors.NoWay(3), errors.NoWay(4)
        self.assertEqual((first.at, second.at), (3, 4))
