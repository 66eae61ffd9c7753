"""What a hall refuses: the order of its refusals, their values, and that nothing changes then."""

import unittest

from chairvote.errors import Away, Busy, HallError, NoChair, NoHand, NoRoll, Standing
from chairvote.halls import Hall
from tests.halldeeds import carry_all, chaired_hall, hall_state, lose_all
from tests.making import whole_state

ADD = ("add", "a", 1)
STRANGE = (8, 9, 15, 1 << 59)
DEEDS = {
    "ring": lambda hall, h: hall.ring(h),
    "ask": lambda hall, h: hall.ask(h, 5, 1, ADD),
    "look": lambda hall, h: hall.look(h, 5, "a"),
    "change": lambda hall, h: hall.change(h, 3),
    "change to none": lambda hall, h: hall.change(h, 0),
    "change to strangers": lambda hall, h: hall.change(h, 12),
    "fold": lambda hall, h: hall.fold(h),
    "fall": lambda hall, h: hall.fall(h),
}
OTHERS = {
    "rise": lambda hall, h: hall.rise(h),
    "view": lambda hall, h: hall.view(h),
    "book": lambda hall, h: hall.book(h),
}


def asking_hall():
    hall = Hall(3, 7)
    hall.ring(1)
    return hall


def fallen_hall():
    """The chair and another hand are down, with letters to both on the road."""
    hall = chaired_hall()
    hall.ask(0, 4, 1, ADD)
    hall.carry(0)
    hall.fall(0)
    hall.fall(2)
    return hall


def busy_hall():
    hall = chaired_hall()
    hall.change(0, 3)
    return hall


class HallRefusals(unittest.TestCase):
    def assert_refused(self, hall, deed, error, at):
        before = (hall_state(hall, 3), whole_state(hall))
        with self.assertRaises(error) as caught:
            deed()
        self.assertEqual(caught.exception.at, at)
        self.assertIsInstance(caught.exception, HallError)
        self.assertEqual((hall_state(hall, 3), whole_state(hall)), before)


class NoHandTest(HallRefusals):
    def test_a_number_that_no_hand_has(self):
        for make in (lambda: Hall(3, 7), asking_hall, chaired_hall, fallen_hall, busy_hall):
            for name, deed in list(DEEDS.items()) + list(OTHERS.items()):
                for h in (3, 4, 59, 60, 10 ** 40, -1, -3):
                    hall = make()
                    with self.subTest(name=name, h=h):
                        self.assert_refused(hall, lambda: deed(hall, h), NoHand, h)

    def test_just_behind_the_last_hand(self):
        for number in (1, 2, 9):
            hall = Hall(number, 1)
            hall.ring(number - 1)
            hall.fall(number - 1)
            hall.rise(number - 1)
            for deed in list(DEEDS.values()) + list(OTHERS.values()):
                with self.assertRaises(NoHand) as caught:
                    deed(hall, number)
                self.assertEqual(caught.exception.at, number)


class AwayTest(HallRefusals):
    def test_a_hand_that_is_down(self):
        for name, deed in DEEDS.items():
            for h in (0, 2):
                hall = fallen_hall()
                with self.subTest(name=name, h=h):
                    self.assert_refused(hall, lambda: deed(hall, h), Away, h)

    def test_up_again_it_is_not_refused_so(self):
        for name in ("ring", "fold", "fall"):
            hall = fallen_hall()
            hall.rise(2)
            DEEDS[name](hall, 2)

    def test_it_is_viewed_and_its_book_is_told(self):
        hall = fallen_hall()
        self.assertEqual([hall.view(h)[0] for h in range(3)], ["away", "sits", "away"])
        self.assertEqual(hall.book(2), "book 1 0\nbase 0 0 7 0\nat 1 start\nend 3")


class StandingTest(HallRefusals):
    def test_a_hand_that_is_up(self):
        for make in (lambda: Hall(3, 7), asking_hall, chaired_hall, busy_hall):
            for h in range(3):
                hall = make()
                self.assert_refused(hall, lambda: hall.rise(h), Standing, h)

    def test_behind_a_coming_up(self):
        hall = fallen_hall()
        self.assert_refused(hall, lambda: hall.rise(1), Standing, 1)
        hall.rise(2)
        self.assert_refused(hall, lambda: hall.rise(2), Standing, 2)
        hall.rise(0)
        self.assert_refused(hall, lambda: hall.rise(0), Standing, 0)


class ChangeTest(HallRefusals):
    def test_strangers_are_refused_ahead_of_all_that_the_hand_refuses(self):
        for make in (lambda: Hall(3, 7), asking_hall, chaired_hall, busy_hall):
            for h in range(3):
                for S in STRANGE:
                    hall = make()
                    self.assert_refused(hall, lambda: hall.change(h, S), NoRoll, S)

    def test_the_least_stranger_is_the_hand_behind_the_last_one(self):
        for number in (1, 2, 9):
            hall = chaired_hall(number, 1)
            for S in (1 << number, (1 << number) + 1):
                with self.assertRaises(NoRoll) as caught:
                    hall.change(0, S)
                self.assertEqual(caught.exception.at, S)
            hall.change(0, (1 << number) - 1)

    def test_the_set_without_hands_is_refused_at_any_hand(self):
        for make in (lambda: Hall(3, 7), asking_hall, chaired_hall, busy_hall):
            for h in range(3):
                hall = make()
                self.assert_refused(hall, lambda: hall.change(h, 0), NoRoll, 0)

    def test_busy(self):
        for S in range(1, 8):
            hall = busy_hall()
            self.assert_refused(hall, lambda: hall.change(0, S), Busy, 2)

    def test_busy_while_a_single_roll_is_not_settled(self):
        hall = busy_hall()
        hall.carry(0)
        hall.carry(1)
        # Two hands of both parts have the double roll; the single one behind it stands there unsettled.
        self.assertEqual(hall.papers()[-2:], [("write", 1, 3, ("roll", 3, 0)), ("beat", 1, 3)])
        self.assert_refused(hall, lambda: hall.change(0, 7), Busy, 3)
        carry_all(hall)
        self.assertIsNone(hall.change(0, 7))

    def test_a_hand_that_is_no_chair(self):
        hall = busy_hall()
        for h in (1, 2):
            self.assert_refused(hall, lambda: hall.change(h, 7), NoChair, 0)


class NoChairTest(HallRefusals):
    def assert_no_chair(self, hall, h, at):
        for name in ("ask", "look", "change"):
            with self.subTest(name=name, h=h):
                self.assert_refused(hall, lambda: DEEDS[name](hall, h), NoChair, at)

    def test_none_is_known(self):
        for h in range(3):
            self.assert_no_chair(Hall(3, 7), h, None)
            self.assert_no_chair(asking_hall(), h, None)

    def test_another_hand_is_known(self):
        for chair in range(3):
            hall = chaired_hall(3, 7, chair)
            for h in range(3):
                if h != chair:
                    self.assert_no_chair(hall, h, chair)

    def test_a_chair_that_came_up_again(self):
        hall = chaired_hall()
        hall.fall(0)
        hall.rise(0)
        self.assert_no_chair(hall, 0, None)

    def test_a_chair_that_another_one_follows(self):
        hall = chaired_hall()
        hall.ring(1)
        hall.carry(0)
        self.assert_no_chair(hall, 0, None)
        carry_all(hall)
        self.assert_no_chair(hall, 0, 1)


class NoneGivenTest(unittest.TestCase):
    def test_what_gives_back_nothing_gives_none(self):
        hall = Hall(3, 7)
        self.assertIsNone(hall.ring(0))
        carry_all(hall)
        self.assertIsNone(hall.ask(0, 5, 1, ADD))
        self.assertIsNone(hall.look(0, 5, "a"))
        self.assertIsNone(hall.change(0, 3))
        self.assertIsNone(hall.double(0))
        self.assertIsNone(hall.lose(0))
        self.assertIsNone(hall.carry(0))
        self.assertIsNone(hall.fall(1))
        self.assertIsNone(hall.rise(1))

    def test_folding_gives_a_place(self):
        hall = Hall(3, 7)
        self.assertEqual([hall.fold(h) for h in range(3)], [0, 0, 0])
        hall = chaired_hall()
        hall.ask(0, 5, 1, ADD)
        lose_all(hall)
        self.assertEqual([hall.fold(h) for h in range(3)], [1, 0, 0])
        hall.ring(0)
        carry_all(hall)
        self.assertEqual(hall.fold(0), 2)
        self.assertEqual(hall.book(0), "book 1 0\nbase 2 1 7 0\nvalue a 1\nanswer 5 1 1\nend 4")
        self.assertEqual(hall.fold(0), 2)


if __name__ == "__main__":
    unittest.main()
