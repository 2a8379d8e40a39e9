"""The refusals: their places under WaltzError, and their fields."""

import unittest

from lastwaltz import errors
from lastwaltz.errors import NoGuest, NoText, WaltzError

PLAIN = (
    "AlreadyIn", "Masked", "Same", "Met", "NotNew", "NoWay", "NoPlan", "NoMoment",
    "BadName", "Taken", "Unknown", "TooLong", "NoFigure",
)
ALL = PLAIN + ("NoGuest", "NoText")


class TestPlaces(unittest.TestCase):

    def test_waltz_error_is_straight_under_value_error(self):
        self.assertEqual(WaltzError.__bases__, (ValueError,))

    def test_each_is_straight_under_waltz_error(self):
        for name in ALL:
            with self.subTest(name=name):
                self.assertEqual(getattr(errors, name).__bases__, (WaltzError,))

    def test_each_bears_its_own_name(self):
        for name in ALL + ("WaltzError",):
            with self.subTest(name=name):
                self.assertEqual(getattr(errors, name).__name__, name)

    def test_none_is_under_another(self):
        for name in ALL:
            for other in ALL:
                if name != other:
                    with self.subTest(name=name, other=other):
                        self.assertFalse(issubclass(getattr(errors, name), getattr(errors, other)))

    def test_each_is_taken_as_waltz_error_and_value_error(self):
        for name in PLAIN:
            for wide in (WaltzError, ValueError):
                with self.subTest(name=name, wide=wide):
                    with self.assertRaises(wide):
                        raise getattr(errors, name)("why")


class TestFields(unittest.TestCase):

    def test_no_guest_tells_the_guest(self):
        for guest in (0, 7, 999999999999):
            with self.assertRaises(WaltzError) as caught:
                raise NoGuest(guest)
            self.assertEqual(caught.exception.guest, guest)

    def test_no_text_tells_the_place(self):
        for place in (1, 2, 5000):
            with self.assertRaises(WaltzError) as caught:
                raise NoText(place)
            self.assertEqual(caught.exception.place, place)

    def test_they_can_be_shown(self):
        self.assertIn("31", str(NoGuest(31)))
        self.assertIn("31", str(NoText(31)))


if __name__ == "__main__":
    unittest.main()
