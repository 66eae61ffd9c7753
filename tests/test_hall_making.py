"""How a hall is made, and which first rolls are refused."""

import unittest

from chairvote.errors import HallError, NoHand, NoRoll
from chairvote.halls import Hall
from tests.halldeeds import chaired_hall, hall_state
from tests.making import EMPTY, GREAT_TERM

FIRST = ((1, 1), (2, 1), (2, 2), (2, 3), (3, 5), (4, 8), (9, 1), (9, 256), (9, 511), (9, 341))


class MakingTest(unittest.TestCase):
    def assert_new(self, hall, number, S, term):
        text = f"book {term} -\nbase 0 0 {S} 0\nend 2"
        view = ("sits", term, None, None, 0, 0, EMPTY)
        self.assertEqual(hall_state(hall, number), ([], [], [], [view] * number, [text] * number))

    def test_a_new_hall(self):
        for number, S in FIRST:
            with self.subTest(number=number, S=S):
                self.assert_new(Hall(number, S), number, S, 0)

    def test_a_first_term(self):
        for term in (0, 1, 7, 10 ** 39, GREAT_TERM, 10 ** 59 + 3):
            for number, S in FIRST:
                self.assert_new(Hall(number, S, term), number, S, term)
            self.assert_new(Hall(2, 3, term=term), 2, 3, term)

    def test_hands_are_numbered_from_nought(self):
        for number in range(1, 10):
            hall = Hall(number, 1)
            for h in (-1, number, number + 1, 60):
                for asked in (hall.view, hall.book):
                    with self.assertRaises(NoHand) as caught:
                        asked(h)
                    self.assertEqual(caught.exception.at, h)

    def test_just_the_sets_of_its_hands_are_first_rolls(self):
        for number in range(1, 6):
            for S in range(1 << (number + 2)):
                with self.subTest(number=number, S=S):
                    if 0 < S < 1 << number:
                        self.assert_new(Hall(number, S), number, S, 0)
                    else:
                        self.assert_refused(number, S)

    def test_other_sets_are_refused_by_great_halls(self):
        for S in (0, 512, 513, 1023, 1 << 59, (1 << 60) - 1):
            self.assert_refused(9, S)

    def assert_refused(self, number, S):
        with self.assertRaises(NoRoll) as caught:
            Hall(number, S, 4)
        self.assertEqual(caught.exception.at, S)
        self.assertIsInstance(caught.exception, HallError)

    def test_the_first_term_is_the_one_that_grows(self):
        for term in (0, 4, GREAT_TERM):
            hall = Hall(3, 7, term)
            hall.ring(1)
            self.assertEqual(hall.road(), [("please", 1, h, term + 1, (0, 0)) for h in (0, 2)])
            self.assertEqual(hall.papers(), [("vote", 1, term + 1, 1)])
            self.assertEqual(hall.view(1), ("asks", term + 1, 1, None, 0, 0, EMPTY))

    def test_a_hand_by_itself_takes_the_chair_at_once(self):
        for number, S in ((1, 1), (3, 1), (9, 1)):
            hall = Hall(number, S)
            hall.ring(0)
            self.assertEqual(hall.road(), [])
            self.assertEqual(hall.view(0), ("chairs", 1, 0, 0, 1, 1, EMPTY))
            papers = [("vote", 0, 1, 0), ("chair", 0, 1, 1), ("write", 1, 1, ("start",)), ("beat", 1, 1)]
            self.assertEqual(hall.papers(), papers + [("settle", 1, 1, 1)])

    def test_a_hand_outside_the_first_roll_asks_its_members(self):
        hall = Hall(4, 5)
        hall.ring(3)
        self.assertEqual(hall.road(), [("please", 3, 0, 1, (0, 0)), ("please", 3, 2, 1, (0, 0))])

    def test_halls_and_their_hands_are_apart(self):
        one, two = Hall(3, 7), Hall(3, 7)
        one.ring(0)
        self.assert_new(two, 3, 7, 0)
        for h in (1, 2):
            self.assertEqual(one.view(h), ("sits", 0, None, None, 0, 0, EMPTY))
        self.assertEqual(hall_state(chaired_hall(), 3), hall_state(chaired_hall(), 3))


if __name__ == "__main__":
    unittest.main()
