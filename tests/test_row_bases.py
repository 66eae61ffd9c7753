"""Folding a row, and setting it to another base."""

import unittest

from chairvote.errors import NoPlace
from chairvote.rows import Row

ASK = ("ask", 1, 2, ("swap", "b", 0, 3))
ENTRIES = [(2, ("start",)), (2, ("roll", 7, 8)), (3, ASK), (4, ("roll", 8, 0)), (4, ASK)]
BASES = (0, 6, 10 ** 45)


def row_at(base):
    return Row(base, 1, (7, 0), ENTRIES)


def state(row):
    return (row.base, row.base_term, row.base_roll, row.entries())


class FoldTest(unittest.TestCase):
    def test_folding_at_each_place(self):
        for base in BASES:
            for count, term, roll, behind, behind_place in (
                (0, 1, (7, 0), (8, 0), 4), (1, 2, (7, 0), (8, 0), 4), (2, 2, (7, 8), (8, 0), 4),
                (3, 3, (7, 8), (8, 0), 4), (4, 4, (8, 0), (8, 0), 4), (5, 4, (8, 0), (8, 0), 5),
            ):
                with self.subTest(base=base, count=count):
                    row = row_at(base)
                    self.assertIsNone(row.fold(base + count))
                    self.assertEqual(state(row), (base + count, term, roll, ENTRIES[count:]))
                    self.assertIs(row.base_roll.__class__, tuple)
                    self.assertEqual(row.roll(), behind)
                    self.assertEqual(row.roll_place(), base + behind_place)
                    self.assertEqual(row.end(), (4, base + 5))

    def test_what_is_folded_is_told_no_more(self):
        row = row_at(6)
        row.fold(9)
        self.assertEqual(row.term_at(9), 3)
        self.assertEqual(row.entry_at(10), ENTRIES[3])
        for place, asked in ((8, row.term_at), (8, row.entry_at), (9, row.entry_at), (0, row.term_at)):
            with self.assertRaises(NoPlace) as caught:
                asked(place)
            self.assertEqual(caught.exception.at, place)

    def test_without_roll_entries_the_base_keeps_its_roll(self):
        row = Row(3, 1, (5, 6), [(2, ASK), (3, ASK)])
        row.fold(5)
        self.assertEqual(state(row), (5, 3, (5, 6), []))
        self.assertEqual((row.roll(), row.roll_place()), ((5, 6), 5))

    def test_folding_again_and_putting_behind(self):
        for base in BASES:
            row = row_at(base)
            row.fold(base + 2)
            row.fold(base + 3)
            self.assertEqual(state(row), (base + 3, 3, (7, 8), ENTRIES[3:]))
            row.fold(base + 5)
            self.assertEqual(row.put((9, ASK)), base + 6)
            self.assertEqual(state(row), (base + 5, 4, (8, 0), [(9, ASK)]))

    def test_other_places_are_refused_and_nothing_changes(self):
        for base in BASES:
            for entries in ([], ENTRIES):
                row = Row(base, 1, (7, 0), entries)
                before = state(row)
                last = base + len(entries)
                for place in (base - 1, base - 2, base - 5, last + 1, last + 2, last + 10 ** 41):
                    with self.subTest(base=base, place=place):
                        with self.assertRaises(NoPlace) as caught:
                            row.fold(place)
                        self.assertEqual(caught.exception.at, place)
                        self.assertEqual(state(row), before)

    def test_a_row_without_entries_is_folded_at_its_base(self):
        for base in BASES:
            row = Row(base, 1, (7, 8), [])
            row.fold(base)
            self.assertEqual(state(row), (base, 1, (7, 8), []))


class RebaseTest(unittest.TestCase):
    def test_at_the_base_and_below_nothing_happens(self):
        for base in BASES:
            for place in (0, max(base - 1, 0), base):
                for term in (1, 2, 10 ** 50):
                    with self.subTest(base=base, place=place, term=term):
                        row = row_at(base)
                        self.assertIsNone(row.rebase(place, term, (1, 2)))
                        self.assertEqual(state(row), (base, 1, (7, 0), ENTRIES))

    def test_with_the_term_of_the_row_the_entries_behind_stay(self):
        for base in BASES:
            for count, term, behind, behind_place in (
                (1, 2, (8, 0), 4), (2, 2, (8, 0), 4), (3, 3, (8, 0), 4), (4, 4, (1, 2), 4), (5, 4, (1, 2), 5),
            ):
                with self.subTest(base=base, count=count):
                    row = row_at(base)
                    self.assertIsNone(row.rebase(base + count, term, (1, 2)))
                    self.assertEqual(state(row), (base + count, term, (1, 2), ENTRIES[count:]))
                    self.assertEqual((row.roll(), row.roll_place()), (behind, base + behind_place))

    def test_with_another_term_all_entries_leave(self):
        for base in BASES:
            for count, own in ((1, 2), (2, 2), (3, 3), (4, 4), (5, 4)):
                for term in (own - 1, own + 1, 10 ** 50):
                    with self.subTest(base=base, count=count, term=term):
                        row = row_at(base)
                        row.rebase(base + count, term, (1, 2))
                        self.assertEqual(state(row), (base + count, term, (1, 2), []))
                        self.assertEqual((row.roll(), row.roll_place()), ((1, 2), base + count))
                        self.assertEqual(row.end(), (term, base + count))

    def test_beyond_the_last_place_all_entries_leave(self):
        for base in BASES:
            for count in (6, 7, 10 ** 41):
                for term in (1, 4, 5):
                    with self.subTest(base=base, count=count, term=term):
                        row = row_at(base)
                        row.rebase(base + count, term, (1, 2))
                        self.assertEqual(state(row), (base + count, term, (1, 2), []))

    def test_a_row_without_entries(self):
        row = Row(3, 1, (7, 0), [])
        row.rebase(4, 1, (1, 2))
        self.assertEqual(state(row), (4, 1, (1, 2), []))
        row.rebase(3, 1, (7, 0))
        self.assertEqual(state(row), (4, 1, (1, 2), []))

    def test_putting_behind_another_base(self):
        row = row_at(0)
        row.rebase(3, 3, (1, 2))
        self.assertEqual(row.put((5, ASK)), 6)
        self.assertEqual(row.entries(), ENTRIES[3:] + [(5, ASK)])


if __name__ == "__main__":
    unittest.main()
