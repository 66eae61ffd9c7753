"""Sets of hands, and what carries a part and wins a roll."""

import unittest

from chairvote.rolls import carries, hands_of, many, members, set_of, wins

ALL = (1 << 60) - 1


class SetsTest(unittest.TestCase):
    def test_sets_of_lists(self):
        for hands, told in (
            ([], 0), ([0], 1), ([59], 1 << 59), ([0, 2], 5), ([2, 0], 5), ([2, 0, 2, 2], 5),
            ([7, 7], 128), ([59, 0, 30], (1 << 59) + (1 << 30) + 1), (list(range(60)), ALL),
            (list(range(59, -1, -1)) * 2, ALL),
        ):
            with self.subTest(hands=hands):
                self.assertEqual(set_of(hands), told)

    def test_hands_of_sets(self):
        for told, hands in (
            (0, []), (1, [0]), (1 << 59, [59]), (5, [0, 2]), (6, [1, 2]),
            ((1 << 59) + (1 << 30) + 1, [0, 30, 59]), (ALL, list(range(60))),
        ):
            with self.subTest(told=told):
                self.assertEqual(hands_of(told), hands)

    def test_how_many(self):
        for told, count in ((0, 0), (1, 1), (1 << 59, 1), (5, 2), (7, 3), (ALL, 60), (ALL - 1, 59)):
            with self.subTest(told=told):
                self.assertEqual(many(told), count)

    def test_each_hand_goes_into_a_set_and_comes_back(self):
        for hand in range(60):
            with self.subTest(hand=hand):
                self.assertEqual(set_of([hand]), 1 << hand)
                self.assertEqual(hands_of(1 << hand), [hand])

    def test_the_list_handed_in_stays_as_it_was(self):
        hands = [3, 1, 3, 0]
        self.assertEqual(set_of(hands), 11)
        self.assertEqual(hands, [3, 1, 3, 0])

    def test_the_list_told_is_a_new_one_each_time(self):
        first = hands_of(5)
        self.assertIs(first.__class__, list)
        first.append(9)
        self.assertEqual(hands_of(5), [0, 2])

    def test_hands_somewhat_beyond_the_bound_are_not_refused(self):
        self.assertEqual(set_of([60, 61]), 3 << 60)
        self.assertEqual(hands_of(3 << 60), [60, 61])
        self.assertEqual(many(3 << 60), 2)


class CarryingTest(unittest.TestCase):
    def assert_told(self, truth, expected):
        self.assertIs(truth, expected)

    def test_a_part_of_odd_size(self):
        part = set_of([1, 3, 5, 7, 9])
        for hands, most, half in (
            ([], False, False), ([1], False, False), ([1, 9], False, False),
            ([1, 5, 9], True, True), ([1, 3, 5, 7, 9], True, True),
        ):
            with self.subTest(hands=hands):
                self.assert_told(carries(set_of(hands), part), most)
                self.assert_told(carries(set_of(hands), part, False), most)
                self.assert_told(carries(set_of(hands), part, True), half)

    def test_a_part_of_even_size(self):
        part = set_of([0, 2, 4, 59])
        for hands, most, half in (
            ([], False, False), ([59], False, False), ([0, 59], False, True),
            ([0, 4, 59], True, True), ([0, 2, 4, 59], True, True),
        ):
            with self.subTest(hands=hands):
                self.assert_told(carries(set_of(hands), part), most)
                self.assert_told(carries(set_of(hands), part, half=False), most)
                self.assert_told(carries(set_of(hands), part, half=True), half)

    def test_parts_of_every_size_at_just_half_one_more_and_one_fewer(self):
        for size in range(1, 61):
            part = (1 << size) - 1
            for count in range(size + 1):
                with self.subTest(size=size, count=count):
                    inside = part ^ ((1 << (size - count)) - 1)
                    self.assertEqual(carries(inside, part), count + count > size)
                    self.assertEqual(carries(inside, part, True), count + count >= size)

    def test_a_part_of_one_and_of_two(self):
        self.assert_told(carries(8, 8), True)
        self.assert_told(carries(0, 8, True), False)
        self.assert_told(carries(8, 24), False)
        self.assert_told(carries(8, 24, True), True)

    def test_a_part_without_hands_has_no_more_than_half_of_none(self):
        self.assert_told(carries(7, 0), False)
        self.assert_told(carries(7, 0, True), True)

    def test_hands_in_no_part_count_for_nothing(self):
        part = set_of([0, 1, 2])
        outside = ALL ^ part
        for half in (False, True):
            self.assert_told(carries(outside, part, half), False)
            self.assert_told(carries(outside | 1, part, half), False)
            self.assert_told(carries(outside | 3, part, half), True)


class RollsTest(unittest.TestCase):
    def test_members(self):
        for roll, told in (
            ((1, 0), 1), ((5, 0), 5), ((5, 6), 7), ((3, 3), 3), ((1, 1 << 59), 1 + (1 << 59)),
            ((ALL, 1), ALL), ((ALL, 0), ALL),
        ):
            with self.subTest(roll=roll):
                self.assertEqual(members(roll), told)

    def test_a_single_roll_asks_for_its_first_part_alone(self):
        for hands, most, half in ((0, False, False), (1, False, False), (3, False, True), (7, True, True)):
            with self.subTest(hands=hands):
                self.assertIs(wins((15, 0), hands), most)
                self.assertIs(wins((15, 0), hands, False), most)
                self.assertIs(wins((15, 0), hands, half=True), half)

    def test_a_double_roll_asks_for_both_parts(self):
        roll = (set_of([0, 1, 2]), set_of([2, 3, 4, 5]))
        for hands, most, half in (
            ([0, 1], False, False), ([3, 4, 5], False, False), ([0, 1, 3], False, False),
            ([0, 1, 3, 4], False, True), ([0, 2, 3], False, True), ([0, 2, 3, 4], True, True),
            ([0, 3, 4, 5], False, False), ([0, 1, 3, 4, 5], True, True), ([], False, False),
        ):
            with self.subTest(hands=hands):
                self.assertIs(wins(roll, set_of(hands)), most)
                self.assertIs(wins(roll, set_of(hands), False), most)
                self.assertIs(wins(roll, set_of(hands), True), half)

    def test_hands_in_no_part_count_for_nothing(self):
        for half in (False, True):
            self.assertIs(wins((7, 0), ALL ^ 7, half), False)
            self.assertIs(wins((7, 0), (ALL ^ 7) | 3, half), True)
            self.assertIs(wins((7, 56), ALL ^ 63, half), False)
            self.assertIs(wins((7, 56), (ALL ^ 63) | 3, half), False)
            self.assertIs(wins((7, 56), (ALL ^ 63) | 48, half), False)
            self.assertIs(wins((7, 56), (ALL ^ 63) | 51, half), True)

    def test_small_rolls_one_by_one(self):
        for one in range(1, 16):
            for two in range(16):
                for S in range(16):
                    for half in (False, True):
                        expected = True
                        for part in (one, two):
                            if part:
                                inside = bin(part & S).count("1")
                                rest = bin(part & ~S).count("1")
                                expected = expected and (inside > rest or (half and inside == rest))
                        with self.subTest(one=one, two=two, S=S, half=half):
                            self.assertIs(wins((one, two), S, half), expected)


if __name__ == "__main__":
    unittest.main()
