"""Lists of entries: their end, roll and roll's place, and what they have in common with others."""

import random
import unittest

from chairvote.lists import (
    answer_at, are_alike, end_of, led_by, roll_of, roll_place_of, shelf_at, start_place_of,
)
from chairvote.rows import Row
from tests.making import EMPTY, GREAT_TERM, START, ask, asks

FIRST = (7, 0)
ROLLS = [(1, START), (1, ("roll", 7, 3)), (1, ask(1)), (2, START), (2, ("roll", 3, 0)), (2, ask(2))]


class EndTest(unittest.TestCase):
    def test_of_none(self):
        self.assertEqual(end_of([]), (0, 0))

    def test_term_and_length(self):
        self.assertEqual(end_of([(1, START)]), (1, 1))
        self.assertEqual(end_of(ROLLS), (2, 6))
        self.assertEqual(end_of([(GREAT_TERM, START), (3, START)]), (3, 2))


class RollTest(unittest.TestCase):
    def test_without_roll_entries_it_is_the_first_one(self):
        for entries in ([], asks(1, 1, 3)):
            for first in (FIRST, (1, 0), (4, 2)):
                self.assertEqual(roll_of(entries, first), first)
            self.assertEqual(roll_place_of(entries), 0)

    def test_the_last_roll_entry_counts(self):
        told = [((7, 0), 0), ((7, 0), 0), ((7, 3), 2), ((7, 3), 2), ((7, 3), 2), ((3, 0), 5), ((3, 0), 5)]
        for count, (roll, place) in enumerate(told):
            self.assertEqual(roll_of(ROLLS[:count], FIRST), roll)
            self.assertEqual(roll_place_of(ROLLS[:count]), place)

    def test_at_the_first_and_last_place(self):
        entries = [(1, ("roll", 7, 1)), (1, START), (1, ("roll", 1, 0))]
        self.assertEqual((roll_of(entries[:2], FIRST), roll_place_of(entries[:2])), ((7, 1), 1))
        self.assertEqual((roll_of(entries, FIRST), roll_place_of(entries)), ((1, 0), 3))

    def test_as_a_row_that_keeps_all(self):
        chance = random.Random(1)
        for trial in range(200):
            entries = [chance.choice(ROLLS) for k in range(chance.randrange(8))]
            row = Row(0, 0, FIRST, entries)
            self.assertEqual(end_of(entries), row.end())
            self.assertEqual((roll_of(entries, FIRST), roll_place_of(entries)), (row.roll(), row.roll_place()))


class StartTest(unittest.TestCase):
    def test_the_first_place_of_a_term(self):
        self.assertEqual(start_place_of(ROLLS, 1), 1)
        self.assertEqual(start_place_of(ROLLS, 2), 4)
        self.assertEqual(start_place_of([(5, START), (9, START), (5, START)], 5), 1)

    def test_none(self):
        self.assertIsNone(start_place_of([], 1))
        self.assertIsNone(start_place_of(ROLLS, 3))
        self.assertIsNone(start_place_of(ROLLS[:3], 2))


class CommonTest(unittest.TestCase):
    def test_alike_up_to_a_place(self):
        one, two = ROLLS, ROLLS[:3] + [(3, START)]
        for place in range(5):
            self.assertIs(are_alike(one, two, place), place <= 3)
            self.assertIs(are_alike(two, one, place), place <= 3)

    def test_one_that_is_shorter_lacks(self):
        for place in range(5):
            self.assertIs(are_alike(ROLLS[:2], ROLLS, place), place <= 2)
            self.assertIs(are_alike([], ROLLS, place), place == 0)

    def test_entries_of_one_term_may_be_unlike(self):
        self.assertFalse(are_alike([(1, ask(1))], [(1, ask(2))], 1))
        self.assertFalse(are_alike([(1, ask(1))], [(2, ask(1))], 1))

    def test_a_row_that_agrees_stays(self):
        for row in (ROLLS, ROLLS[:3], ROLLS[:3] + [(9, START)]):
            for place in range(4):
                self.assertEqual(led_by(ROLLS, row, place), row)

    def test_a_row_that_does_not_agree_becomes_the_beginning_of_the_line(self):
        for row in ([], ROLLS[:1], [(9, START)] * 6, ROLLS[:1] + [(9, START)] * 5):
            for place in range(2, 7):
                self.assertEqual(led_by(ROLLS, row, place), ROLLS[:place])

    def test_new_lists_are_given(self):
        line, row = list(ROLLS), list(ROLLS[:4])
        for place in range(7):
            led_by(line, row, place).append((9, START))
        self.assertEqual((line, row), (ROLLS, ROLLS[:4]))


class ShelfTest(unittest.TestCase):
    LINE = [
        (1, START), (1, ask(1, ("put", "b", 4))), (1, ("roll", 7, 1)), (2, ask(2, ("add", "b", 5))),
        (2, ask(1, ("put", "b", 100))), (3, ask(1, ("swap", "b", 9, 2), who=8)),
    ]

    def test_the_shelf_at_each_place(self):
        told = [shelf_at(self.LINE, place).told() for place in range(7)]
        self.assertEqual(told[:2], [EMPTY, EMPTY])
        self.assertEqual(told[2:4], [((("b", 4),), ((0, 1, 0),))] * 2)
        self.assertEqual(told[4:6], [((("b", 9),), ((0, 1, 0), (0, 2, 9)))] * 2)
        self.assertEqual(told[6], ((("b", 2),), ((0, 1, 0), (0, 2, 9), (8, 1, 1))))

    def test_the_answer_at_a_place(self):
        self.assertEqual([answer_at(self.LINE, place) for place in (2, 4, 5, 6)], [0, 9, 0, 1])
        self.assertEqual([answer_at(asks(1, 1, 4), place) for place in (1, 2, 3, 4)], [1, 2, 3, 4])

    def test_nothing_that_is_handed_in_changes(self):
        line = list(self.LINE)
        shelf_at(line, 6)
        answer_at(line, 6)
        self.assertEqual(line, self.LINE)


if __name__ == "__main__":
    unittest.main()
