"""What a row tells of its places, its end and its roll, and that it is apart from all others."""

import unittest

from chairvote.errors import NoPlace
from chairvote.rows import Row

START = ("start",)
ASK = ("ask", 1, 2, ("put", "a", 3))
GREAT = 10 ** 45
GREAT_TERM = 7 * 10 ** 50
ENTRIES = [(2, START), (2, ("roll", 7, 0)), (5, ASK), (5, ("roll", 7, 56)), (5, ASK)]


def state(row):
    return (row.base, row.base_term, row.base_roll, row.entries(), row.last(), row.end(), row.roll(), row.roll_place())


class RowTest(unittest.TestCase):
    def assert_no_place(self, place, asked):
        with self.assertRaises(NoPlace) as caught:
            asked(place)
        self.assertEqual(caught.exception.at, place)

    def test_values_are_those_told(self):
        for base, term, roll in ((0, 0, (1, 0)), (9, 4, (5, 6)), (GREAT, GREAT_TERM, (1 << 59, 0))):
            with self.subTest(base=base):
                row = Row(base, term, roll, list(ENTRIES))
                self.assertEqual((row.base, row.base_term, row.base_roll), (base, term, roll))

    def test_a_row_without_entries(self):
        for base, term in ((0, 0), (0, 3), (8, 3), (GREAT, GREAT_TERM)):
            with self.subTest(base=base, term=term):
                row = Row(base, term, (3, 4), [])
                self.assertEqual(row.entries(), [])
                self.assertEqual(row.last(), base)
                self.assertEqual(row.end(), (term, base))
                self.assertEqual(row.term_at(base), term)
                self.assertEqual(row.roll(), (3, 4))
                self.assertEqual(row.roll_place(), base)
                self.assert_no_place(base, row.entry_at)
                for asked in (row.term_at, row.entry_at):
                    self.assert_no_place(base - 1, asked)
                    self.assert_no_place(base + 1, asked)

    def test_places_of_a_row_with_entries(self):
        for base in (0, 1, 12, GREAT):
            with self.subTest(base=base):
                row = Row(base, 1, (1, 0), ENTRIES)
                self.assertEqual(row.entries(), ENTRIES)
                self.assertEqual(row.last(), base + 5)
                self.assertEqual(row.end(), (5, base + 5))
                self.assertEqual(row.term_at(base), 1)
                for k, entry in enumerate(ENTRIES):
                    self.assertEqual(row.entry_at(base + 1 + k), entry)
                    self.assertEqual(row.term_at(base + 1 + k), entry[0])
                self.assert_no_place(base, row.entry_at)

    def test_places_below_the_base_and_beyond_the_last_one_are_refused(self):
        for base in (0, 1, 4, 12, GREAT):
            row = Row(base, 1, (1, 0), ENTRIES)
            before = state(row)
            places = [base - k for k in range(1, 8)] + [base + 6, base + 7, base + 10, base + 10 ** 40, 10 ** 59]
            for place in places:
                with self.subTest(base=base, place=place):
                    self.assert_no_place(place, row.term_at)
                    self.assert_no_place(place, row.entry_at)
            self.assertEqual(state(row), before)

    def test_the_place_0_of_a_row_with_a_base_is_refused(self):
        row = Row(3, 1, (1, 0), ENTRIES)
        self.assert_no_place(0, row.term_at)
        self.assert_no_place(0, row.entry_at)

    def test_the_end_tells_the_term_of_the_last_entry(self):
        self.assertEqual(Row(4, 9, (1, 0), [(3, START)]).end(), (3, 5))
        self.assertEqual(Row(4, 9, (1, 0), [(3, START), (11, ASK)]).end(), (11, 6))
        self.assertIs(Row(0, 0, (1, 0), []).end().__class__, tuple)

    def test_the_roll_is_that_of_the_last_roll_entry(self):
        for base in (0, 6, GREAT):
            for count, roll, place in ((0, (1, 0), 0), (1, (1, 0), 0), (2, (7, 0), 2), (3, (7, 0), 2),
                                       (4, (7, 56), 4), (5, (7, 56), 4)):
                with self.subTest(base=base, count=count):
                    row = Row(base, 1, (1, 0), ENTRIES[:count])
                    self.assertEqual(row.roll(), roll)
                    self.assertIs(row.roll().__class__, tuple)
                    self.assertEqual(row.roll_place(), base + place)

    def test_a_roll_entry_at_the_first_place(self):
        row = Row(2, 1, (1, 0), [(1, ("roll", 1, 6)), (1, ASK)])
        self.assertEqual(row.roll(), (1, 6))
        self.assertEqual(row.roll_place(), 3)

    def test_an_ask_is_no_roll_whatever_its_parts(self):
        row = Row(0, 0, (1, 0), [(1, ("ask", 3, 4, ("put", "roll", 5)))])
        self.assertEqual(row.roll(), (1, 0))
        self.assertEqual(row.roll_place(), 0)

    def test_put_gives_back_the_place(self):
        for base in (0, 5, GREAT):
            with self.subTest(base=base):
                row = Row(base, 1, (1, 0), [])
                for k, entry in enumerate(ENTRIES):
                    self.assertEqual(row.put(entry), base + 1 + k)
                    self.assertEqual(row.entry_at(base + 1 + k), entry)
                    self.assertEqual(row.last(), base + 1 + k)
                self.assertEqual(row.entries(), ENTRIES)
                self.assertEqual(row.roll(), (7, 56))
                self.assertEqual(row.roll_place(), base + 4)

    def test_put_asks_nothing_of_the_term(self):
        row = Row(0, 0, (1, 0), [(9, START)])
        self.assertEqual(row.put((4, ASK)), 2)
        self.assertEqual(row.end(), (4, 2))

    def test_great_terms_and_places(self):
        row = Row(10 ** 59, 10 ** 58, (1, 0), [(10 ** 58 + 1, START), (10 ** 58 + 2, ("roll", 1, 2))])
        self.assertEqual(row.end(), (10 ** 58 + 2, 10 ** 59 + 2))
        self.assertEqual(row.term_at(10 ** 59 + 1), 10 ** 58 + 1)
        self.assertEqual(row.roll_place(), 10 ** 59 + 2)
        self.assertEqual(row.put((10 ** 59, ASK)), 10 ** 59 + 3)

    def test_a_row_of_four_hundred_entries(self):
        row = Row(3, 0, (1, 0), [(k, ASK) for k in range(400)])
        self.assertEqual(row.end(), (399, 403))
        self.assertEqual(row.roll_place(), 3)


class ApartTest(unittest.TestCase):
    def test_the_list_handed_in_is_kept_as_a_copy(self):
        handed = list(ENTRIES)
        row = Row(2, 1, (1, 0), handed)
        before = state(row)
        handed.append((9, START))
        handed[0] = (8, ASK)
        self.assertEqual(state(row), before)

    def test_the_list_handed_in_is_not_changed(self):
        handed = list(ENTRIES)
        row = Row(2, 1, (1, 0), handed)
        row.put((6, START))
        row.fill(3, [(9, ASK)])
        row.fold(3)
        self.assertEqual(handed, ENTRIES)

    def test_the_list_told_is_a_new_one_each_time(self):
        row = Row(2, 1, (1, 0), ENTRIES)
        before = state(row)
        told = row.entries()
        self.assertIs(told.__class__, list)
        told.clear()
        self.assertEqual(state(row), before)
        kept = row.entries()
        row.put((6, START))
        self.assertEqual(kept, ENTRIES)

    def test_a_twin_is_like(self):
        for base, entries in ((0, []), (0, ENTRIES), (GREAT, ENTRIES), (4, [])):
            with self.subTest(base=base):
                row = Row(base, 3, (5, 6), entries)
                self.assertEqual(state(row.twin()), state(row))
                self.assertIsInstance(row.twin(), Row)

    def test_nothing_done_to_a_twin_changes_the_row_nor_the_other_way(self):
        for change in (
            lambda row: row.put((9, START)), lambda row: row.fill(3, [(9, ASK)]), lambda row: row.fold(5),
            lambda row: row.rebase(40, 8, (9, 0)), lambda row: row.entries().clear(),
        ):
            row = Row(2, 1, (1, 0), ENTRIES)
            before = state(row)
            twin = row.twin()
            change(twin)
            self.assertEqual(state(row), before)
            twin = row.twin()
            change(row)
            self.assertEqual(state(twin), before)

    def test_two_rows_of_one_list_are_apart(self):
        handed = list(ENTRIES)
        one = Row(0, 0, (1, 0), handed)
        two = Row(0, 0, (1, 0), handed)
        one.put((9, START))
        self.assertEqual(two.entries(), ENTRIES)


if __name__ == "__main__":
    unittest.main()
