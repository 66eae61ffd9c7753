"""The seats and their words."""

import unittest

from chairvote.seats import Asker, Chair, Seat, Sitter
from tests.making import asker_of, chair_of, hand_of


class SeatsTest(unittest.TestCase):
    def test_a_seat_by_itself(self):
        self.assertEqual(Seat().word(), "none")

    def test_each_stands_under_seat(self):
        for kind in (Sitter, Asker, Chair):
            self.assertTrue(issubclass(kind, Seat))
            self.assertEqual([other for other in (Sitter, Asker, Chair) if issubclass(kind, other)], [kind])

    def test_the_seats_of_hands(self):
        for hand, kind, word in (
            (hand_of()[0], Sitter, "sits"), (asker_of()[0], Asker, "asks"), (chair_of()[0], Chair, "chairs"),
        ):
            self.assertIsInstance(hand.seat, kind)
            self.assertEqual(hand.seat.word(), word)


if __name__ == "__main__":
    unittest.main()
