"""Promises of the interface, regrowth/errors.py."""

import unittest

from regrowth import errors

NAMES = [
    "NoFit", "NoForm", "NoRule", "NoFloor", "Barren", "Idle",
    "TooLarge", "Clash", "Stuck", "TooLong", "NoRow",
]


class ErrorsTest(unittest.TestCase):
    def test_any_refusal_stands_straight_under_value_error(self):
        self.assertEqual(errors.GrowthError.__bases__, (ValueError,))

    def test_each_refusal_stands_straight_under_growth_error(self):
        for name in NAMES:
            with self.subTest(name):
                self.assertEqual(getattr(errors, name).__bases__, (errors.GrowthError,))
                self.assertEqual(getattr(errors, name).__name__, name)

    def test_none_stands_under_another_one(self):
        for one in NAMES:
            for other in NAMES:
                under = issubclass(getattr(errors, one), getattr(errors, other))
                self.assertEqual(under, one == other, (one, other))

    def test_a_refusal_is_taken_as_a_growth_error_and_as_a_value_error(self):
        for name in NAMES:
            for base in (errors.GrowthError, ValueError):
                with self.subTest(name), self.assertRaises(base):
                    raise make(name)

    def test_clash_tells_state_and_kind(self):
        with self.assertRaises(errors.Clash) as caught:
            raise errors.Clash(7, "plus")
        self.assertEqual(caught.exception.state, 7)
        self.assertEqual(caught.exception.kind, "plus")
        self.assertIs(type(caught.exception.state), int)
        self.assertIs(type(caught.exception.kind), str)

    def test_stuck_tells_its_place(self):
        with self.assertRaises(errors.Stuck) as caught:
            raise errors.Stuck(0)
        self.assertEqual(caught.exception.place, 0)
        self.assertIs(type(caught.exception.place), int)

    def test_each_object_has_its_own_fields(self):
        one, other = errors.Clash(1, "a"), errors.Clash(2, "b")
        self.assertEqual([one.state, one.kind, other.state, other.kind], [1, "a", 2, "b"])
        first, second = errors.Stuck(3), errors.Stuck(4)
        self.assertEqual([first.place, second.place], [3, 4])


def make(name):
    given = {"Clash": (1, "a"), "Stuck": (2,)}
    return getattr(errors, name)(*given.get(name, ("words",)))


if __name__ == "__main__":
    unittest.main()
