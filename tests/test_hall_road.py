"""The road of a hall: letters that are carried, lost and doubled."""

import unittest

from chairvote.errors import HallError, NoLetter
from chairvote.halls import Hall
from tests.halldeeds import carry_all, chaired_hall, hall_state
from tests.making import EMPTY, START


def please(h, to, term=1):
    return ("please", h, to, term, (0, 0))


class RoadTest(unittest.TestCase):
    def asking_hall(self):
        """Four hands of five are asked for a vote, and one of them asks too."""
        hall = Hall(5, 31)
        hall.ring(2)
        hall.ring(4)
        return hall, [please(2, h) for h in (0, 1, 3, 4)] + [please(4, h) for h in (0, 1, 2, 3)]

    def test_letters_lie_in_the_order_in_which_they_were_sent(self):
        hall, road = self.asking_hall()
        self.assertEqual(hall.road(), road)

    def test_a_carried_letter_leaves_and_what_it_sends_lies_at_the_end(self):
        for k in (0, 1, 2, 4, 5, 7):
            hall, road = self.asking_hall()
            self.assertIsNone(hall.carry(k))
            left = road[:k] + road[k + 1:]
            whom, voter = road[k][1:3]
            self.assertEqual(hall.road(), left + [("vote", voter, whom, 1)])
            self.assertEqual(hall.view(voter)[1:3], (1, whom))
            self.assertEqual(hall.papers()[2:], [("vote", voter, 1, whom)])

    def test_a_carried_letter_that_comes_to_nothing(self):
        for k in (3, 6):
            hall, road = self.asking_hall()
            before = hall_state(hall, 5)
            hall.carry(k)
            self.assertEqual(hall_state(hall, 5), (road[:k] + road[k + 1:],) + before[1:])

    def test_a_letter_is_handed_to_its_hand_alone(self):
        for k in range(8):
            hall, road = self.asking_hall()
            before = [hall.view(h) for h in range(5)]
            hall.carry(k)
            for h in range(5):
                if h != road[k][2]:
                    self.assertEqual(hall.view(h), before[h])

    def test_several_letters_that_are_sent_lie_in_their_order(self):
        hall = Hall(3, 7)
        hall.ring(0)
        hall.carry(0)
        hall.carry(1)
        tells = [("tell", 0, h, 1, 1, 0, 0, ((1, START),), 0) for h in (1, 2)]
        self.assertEqual(hall.road(), [please(0, 2)] + tells)
        hall.carry(1)
        told = ("told", 1, 0, 1, 1, True, 1)
        self.assertEqual(hall.road(), [please(0, 2), tells[1], told])
        hall.ask(0, 5, 1, ("add", "a", 2))
        entries = ((1, START), (1, ("ask", 5, 1, ("add", "a", 2))))
        more = [("tell", 0, h, 1, 2, 0, 0, entries, 0) for h in (1, 2)]
        self.assertEqual(hall.road(), [please(0, 2), tells[1], told] + more)

    def test_letters_of_looks_and_changes_lie_at_the_end(self):
        hall = chaired_hall(2, 3)
        hall.look(0, 7, "a")
        tells = [("tell", 0, 1, 1, 2, 1, 1, (), 1)]
        self.assertEqual(hall.road(), tells)
        hall.change(0, 1)
        self.assertEqual(hall.road(), tells + [("tell", 0, 1, 1, 3, 1, 1, ((1, ("roll", 3, 1)),), 1)])
        hall.ring(0)
        again = ("tell", 0, 1, 1, 4, 1, 1, ((1, ("roll", 3, 1)),), 1)
        self.assertEqual(hall.road()[1:], [("tell", 0, 1, 1, 3, 1, 1, ((1, ("roll", 3, 1)),), 1), again])

    def test_a_lost_letter_leaves(self):
        for k in range(8):
            hall, road = self.asking_hall()
            before = hall_state(hall, 5)
            self.assertIsNone(hall.lose(k))
            self.assertEqual(hall_state(hall, 5), (road[:k] + road[k + 1:],) + before[1:])

    def test_a_like_letter_is_laid_at_the_end(self):
        for k in range(8):
            hall, road = self.asking_hall()
            before = hall_state(hall, 5)
            self.assertIsNone(hall.double(k))
            self.assertEqual(hall_state(hall, 5), (road + [road[k]],) + before[1:])

    def test_a_doubled_letter_is_carried_twice(self):
        hall = Hall(3, 7)
        hall.ring(0)
        hall.double(0)
        hall.carry(2)
        hall.carry(0)
        self.assertEqual(hall.road(), [please(0, 2), ("vote", 1, 0, 1), ("vote", 1, 0, 1)])
        self.assertEqual(hall.papers(), [("vote", 0, 1, 0), ("vote", 1, 1, 0)])

    def test_letters_alike_are_told_apart_by_their_numbers(self):
        hall = Hall(2, 3)
        hall.ring(0)
        hall.double(0)
        hall.ring(1)
        hall.double(0)
        ones, two = please(0, 1), please(1, 0)
        self.assertEqual(hall.road(), [ones, ones, two, ones])
        hall.lose(3)
        self.assertEqual(hall.road(), [ones, ones, two])
        hall.lose(1)
        self.assertEqual(hall.road(), [ones, two])

    def test_no_such_letter(self):
        fallen = Hall(2, 3)
        fallen.ring(0)
        fallen.fall(1)
        for hall, number in ((Hall(3, 7), 3), (self.asking_hall()[0], 5), (chaired_hall(), 3), (fallen, 2)):
            count = len(hall.road())
            for k in (count, count + 1, count + 100, 10 ** 40, -1, -count, -count - 1):
                if k < 0 or k >= count:
                    for deed in (hall.carry, hall.lose, hall.double):
                        self.assert_no_letter(hall, number, deed, k)

    def assert_no_letter(self, hall, number, deed, k):
        before = hall_state(hall, number)
        with self.assertRaises(NoLetter) as caught:
            deed(k)
        self.assertEqual(caught.exception.at, k)
        self.assertIsInstance(caught.exception, HallError)
        self.assertEqual(hall_state(hall, number), before)

    def test_the_last_letter_and_none_behind_it(self):
        for deed in ("carry", "lose"):
            hall = Hall(2, 3)
            hall.ring(0)
            getattr(hall, deed)(0)
            if deed == "carry":
                hall.lose(0)
            self.assert_no_letter(hall, 2, getattr(hall, deed), 0)

    def test_a_letter_to_a_hand_that_is_down_is_gone(self):
        hall = Hall(3, 7)
        hall.ring(0)
        hall.fall(1)
        before = hall_state(hall, 3)
        self.assertIsNone(hall.carry(0))
        self.assertEqual(hall_state(hall, 3), ([please(0, 2)],) + before[1:])
        hall.rise(1)
        carry_all(hall)
        self.assertEqual(hall.view(1), ("sits", 1, None, 0, 0, 0, EMPTY))

    def test_letters_to_a_hand_that_is_down_stay_until_they_are_carried(self):
        hall = Hall(3, 7)
        hall.ring(0)
        hall.fall(1)
        self.assertEqual(hall.road(), [please(0, 1), please(0, 2)])
        hall.double(0)
        hall.lose(0)
        self.assertEqual(hall.road(), [please(0, 2), please(0, 1)])
        hall.rise(1)
        hall.carry(1)
        self.assertEqual(hall.road(), [please(0, 2), ("vote", 1, 0, 1)])

    def test_letters_from_a_hand_that_is_down_are_carried(self):
        hall = Hall(3, 7)
        hall.ring(0)
        hall.fall(0)
        hall.carry(0)
        self.assertEqual(hall.road(), [please(0, 2), ("vote", 1, 0, 1)])
        hall.rise(0)
        hall.carry(1)
        self.assertEqual(hall.road(), [please(0, 2)])
        self.assertEqual(hall.view(0), ("sits", 1, 0, None, 0, 0, EMPTY))

    def test_the_road_that_was_given_is_the_askers_own(self):
        hall, road = self.asking_hall()
        given = hall.road()
        given.pop()
        given[0] = ("late", 0, 1, 9)
        self.assertEqual(hall.road(), road)
        other = hall.road()
        hall.lose(0)
        self.assertEqual(other, road)


if __name__ == "__main__":
    unittest.main()
