"""Calm: whatever was done before, one hand brings all members of its roll to one row."""

import random
import unittest

from chairvote.halls import Hall
from chairvote.rolls import hands_of
from tests.halldeeds import Drawer, calm, carry_all, chaired_hall, drawn_halls, lose_all, ring_twice, row_of
from tests.promise import Promise

TRIALS = 270


class CalmTest(unittest.TestCase):
    def assert_calm(self, hall, h):
        word, term, vote, chair, settled, done, shelf = hall.view(h)
        row = row_of(hall, h)
        self.assertEqual((word, chair), ("chairs", h))
        self.assertEqual(row.roll()[1], 0)
        self.assertEqual((settled, done), (row.last(), row.last()))
        for member in hands_of(row.roll()[0]):
            other = row_of(hall, member)
            self.assertEqual(other.end(), row.end())
            for place in range(max(row.base, other.base) + 1, row.last() + 1):
                self.assertEqual(other.entry_at(place), row.entry_at(place))

    def assert_ask_is_answered(self, hall, h):
        count = len(hall.answers())
        hall.ask(h, 99, 1, ("put", "d", 77))
        carry_all(hall)
        self.assertEqual([paper[0] for paper in hall.answers()[count:]], ["answer"])
        self.assertEqual(hall.answers()[-1][2:4], (99, 1))

    def assert_look_is_answered(self, hall, h):
        count = len(hall.answers())
        hall.look(h, 98, "d")
        carry_all(hall)
        self.assertEqual([paper[0] for paper in hall.answers()[count:]], ["seen"])
        self.assertEqual(hall.answers()[-1][3:7], (98, "d", row_of(hall, h).last(), 77))

    def assert_changed(self, hall, number, h, S):
        has_greater = max(hall.view(other)[1] for other in range(number)) > hall.view(h)[1]
        self.assertIsNone(hall.change(h, S))
        carry_all(hall)
        if has_greater:
            ring_twice(hall, h)
        self.assertEqual(row_of(hall, h).roll(), (S, 0))
        self.assert_calm(hall, h)

    def assert_all_of_calm(self, hall, number, chance):
        h = calm(hall, number, chance)
        self.assert_calm(hall, h)
        self.assert_ask_is_answered(hall, h)
        self.assert_look_is_answered(hall, h)
        self.assert_changed(hall, number, h, chance.randrange(1, 1 << number))

    def test_behind_many_drawn_deeds(self):
        for trial, (hall, number, S, chance) in enumerate(drawn_halls(TRIALS, seed=5000)):
            drawer = Drawer(hall, number, chance)
            with self.subTest(trial=trial):
                for deed in range(chance.choice((20, 80, 200))):
                    drawer.draw()
                self.assert_all_of_calm(hall, number, chance)
                self.assert_papers_taken(hall, number, S)

    def assert_papers_taken(self, hall, number, S):
        promise = Promise(self, hall, number, S)
        promise.read_papers()
        rows = [row_of(hall, h) for h in range(number)]
        promise.hold_rows(rows)
        promise.hold_told([hall.view(h) for h in range(number)], rows)

    def test_calm_again_and_again(self):
        for trial in range(9):
            chance = random.Random(trial)
            hall = Hall(5, 31)
            drawer = Drawer(hall, 5, chance)
            for again in range(6):
                for deed in range(40):
                    drawer.draw()
                self.assert_calm(hall, calm(hall, 5, chance))

    def test_of_a_new_hall_of_any_first_roll(self):
        for number in range(1, 5):
            for S in range(1, 1 << number):
                for h in range(number):
                    hall = Hall(number, S)
                    ring_twice(hall, h)
                    self.assert_calm(hall, h)
                    self.assert_changed(hall, number, h, (1 << number) - 1)

    def test_behind_a_change_that_stood_still(self):
        for S in range(1, 32):
            hall = chaired_hall(5, 7)
            hall.change(0, S)
            lose_all(hall)
            self.assert_all_of_calm(hall, 5, random.Random(S))

    def test_with_a_long_row_that_none_has(self):
        hall = chaired_hall(5, 31)
        for number in range(30):
            hall.ask(0, 5, number, ("add", "a", 1))
            lose_all(hall)
        self.assert_all_of_calm(hall, 5, random.Random(1))

    def test_with_a_folded_row_and_hands_that_have_nothing(self):
        hall = chaired_hall(3, 3)
        for number in range(9):
            hall.ask(0, 5, number, ("add", "a", 1))
        carry_all(hall)
        self.assertEqual(hall.fold(0), 10)
        hall.ring(2)
        lose_all(hall)
        self.assert_all_of_calm(hall, 3, random.Random(2))

    def test_a_greater_term_outside_the_roll(self):
        hall = chaired_hall(3, 3)
        for again in range(9):
            hall.ring(2)
            lose_all(hall)
        self.assertEqual(hall.view(2)[1], 9)
        chance = random.Random(3)
        h = calm(hall, 3, chance)
        self.assert_calm(hall, h)
        self.assert_changed(hall, 3, h, 7)
        self.assertGreater(hall.view(h)[1], 9)


if __name__ == "__main__":
    unittest.main()
