"""Entries told on: what fits a row, where it parts from them, and how it is filled."""

import itertools
import unittest

from chairvote.errors import NoPlace
from chairvote.rows import Row

GREAT = 10 ** 45


def ask(number):
    return ("ask", 0, number, ("add", "a", number))


def entries_of(terms, first):
    return [(term, ask(first + k)) for k, term in enumerate(terms)]


def row_of(base, terms, base_term=1):
    return Row(base, base_term, (7, 0), entries_of(terms, 0))


def state(row):
    return (row.base, row.base_term, row.base_roll, row.entries())


class FitsTest(unittest.TestCase):
    def test_below_the_base_all_fits(self):
        for base in (1, 5, GREAT):
            row = row_of(base, [2, 2, 3])
            for prev in (0, base - 1):
                for term in (0, 1, 2, 9, 10 ** 50):
                    with self.subTest(base=base, prev=prev, term=term):
                        self.assertIs(row.fits(prev, term), True)

    def test_from_the_base_to_the_last_place_the_term_is_asked_for(self):
        for base in (0, 5, GREAT):
            row = row_of(base, [2, 2, 3])
            for k, own in enumerate((1, 2, 2, 3)):
                for term in (0, 1, 2, 3, 4):
                    with self.subTest(base=base, k=k, term=term):
                        self.assertIs(row.fits(base + k, term), term == own)

    def test_beyond_the_last_place_nothing_fits(self):
        for base in (0, 5, GREAT):
            row = row_of(base, [2, 2, 3])
            for prev in (base + 4, base + 5, base + 10 ** 40):
                for term in (0, 1, 2, 3):
                    with self.subTest(base=base, prev=prev, term=term):
                        self.assertIs(row.fits(prev, term), False)

    def test_a_row_without_entries(self):
        row = Row(3, 4, (1, 0), [])
        self.assertIs(row.fits(2, 0), True)
        self.assertIs(row.fits(3, 4), True)
        self.assertIs(row.fits(3, 3), False)
        self.assertIs(row.fits(4, 4), False)

    def test_great_terms(self):
        row = row_of(0, [10 ** 50])
        self.assertIs(row.fits(1, 10 ** 50), True)
        self.assertIs(row.fits(1, 10 ** 50 + 1), False)


class PartsTest(unittest.TestCase):
    def assert_parts(self, row, prev, terms, place):
        for entries in (entries_of(terms, 50), tuple(entries_of(terms, 50))):
            kept = list(entries)
            before = state(row)
            self.assertEqual(row.parts(prev, entries), place)
            self.assertEqual(list(entries), kept)
            self.assertEqual(state(row), before)

    def test_where_they_part(self):
        for base in (0, 5, GREAT):
            row = row_of(base, [2, 3, 4])
            for prev, terms, place in (
                (0, [2, 3, 4], None), (0, [2], None), (0, [], None), (0, [2, 3, 4, 9], None),
                (0, [9, 9, 9], 1), (0, [9, 3, 4], 1), (0, [2, 9, 4], 2), (0, [2, 3, 9], 3),
                (0, [2, 3, 9, 9], 3), (0, [2, 9], 2), (1, [3, 4], None), (1, [9], 2), (1, [3, 9], 3),
                (2, [4], None), (2, [9], 3), (2, [], None), (3, [9], None), (3, [], None),
            ):
                with self.subTest(base=base, prev=prev, terms=terms):
                    self.assert_parts(row, base + prev, terms, None if place is None else base + place)

    def test_nothing_parts_beyond_the_last_place(self):
        row = row_of(2, [2, 3, 4])
        for prev in (5, 6, 40, 10 ** 45):
            self.assert_parts(row, prev, [9, 9], None)
            self.assert_parts(row, prev, [], None)

    def test_what_is_meant_for_the_base_or_below_does_not_part(self):
        for base in (5, GREAT):
            row = row_of(base, [2, 3, 4])
            for back, terms, place in (
                (1, [9], None), (1, [9, 2], None), (1, [9, 9], 1), (1, [9, 2, 9], 2),
                (3, [9, 9], None), (3, [9, 9, 9], None), (3, [9, 9, 9, 2, 3, 4, 5], None),
                (3, [9, 9, 9, 2, 3, 9], 3), (3, [], None), (5, [9], None), (5, [1] * 5 + [8], 1),
            ):
                with self.subTest(base=base, back=back, terms=terms):
                    self.assert_parts(row, base - back, terms, None if place is None else base + place)

    def test_terms_alone_are_held_against_each_other(self):
        row = Row(0, 0, (1, 0), [(2, ("start",))])
        self.assertIsNone(row.parts(0, [(2, ask(4))]))
        self.assertEqual(row.parts(0, [(3, ("start",))]), 1)

    def test_a_row_without_entries(self):
        row = Row(3, 1, (1, 0), [])
        for prev in (0, 2, 3, 4):
            self.assert_parts(row, prev, [9, 9, 9, 9, 9], None)


class FillTest(unittest.TestCase):
    def assert_filled(self, base, terms, prev, told, expected):
        # Those of the row are told by letters, those of the letter by figures.
        for kind in (list, tuple):
            row = row_of(base, terms)
            handed = kind(entries_of(told, 50))
            copy = list(handed)
            self.assertIsNone(row.fill(prev, handed))
            own = entries_of(terms, 0)
            wanted = [own[ord(sign) - ord("a")] if sign.isalpha() else copy[int(sign)] for sign in expected]
            self.assertEqual(row.entries(), wanted)
            self.assertEqual(row.last(), base + len(expected))
            self.assertEqual((row.base, row.base_term, row.base_roll), (base, 1, (7, 0)))
            self.assertEqual(list(handed), copy)

    def test_filling(self):
        for base in (0, 5, GREAT):
            for prev, told, expected in (
                (0, [2, 3, 4], "abc"), (0, [2, 3, 4, 5], "abc3"), (0, [2, 3, 4, 5, 5], "abc34"),
                (0, [9], "0"), (0, [9, 9], "01"), (0, [9, 3, 4, 4], "0123"), (0, [2, 9], "a1"),
                (0, [2, 9, 4], "a12"), (0, [2, 3, 9], "ab2"), (0, [2, 3, 9, 9], "ab23"),
                (1, [9], "a0"), (1, [3, 9, 9], "ab12"), (2, [9], "ab0"), (2, [4, 9], "abc1"),
                (3, [9], "abc0"), (3, [1, 1], "abc01"),
            ):
                with self.subTest(base=base, prev=prev, told=told):
                    self.assert_filled(base, [2, 3, 4], base + prev, told, expected)

    def test_a_short_letter_that_agrees_cuts_nothing(self):
        for base in (0, 5, GREAT):
            for prev, told in ((0, []), (1, []), (2, []), (3, []), (0, [2]), (0, [2, 3]), (1, [3]), (2, [4])):
                with self.subTest(base=base, prev=prev, told=told):
                    self.assert_filled(base, [2, 3, 4], base + prev, told, "abc")

    def test_prev_below_the_base(self):
        for base in (5, GREAT):
            for back, told, expected in (
                (1, [], "abc"), (1, [9], "abc"), (1, [9, 2], "abc"), (1, [9, 2, 3, 4, 6], "abc4"),
                (1, [9, 9], "1"), (1, [9, 2, 9, 9], "a23"), (3, [9, 9], "abc"), (3, [9, 9, 9], "abc"),
                (3, [9, 9, 9, 2, 3, 4], "abc"), (3, [9, 9, 9, 2, 3, 4, 4, 4], "abc67"),
                (3, [9, 9, 9, 9], "3"), (5, [], "abc"),
            ):
                with self.subTest(base=base, back=back, told=told):
                    self.assert_filled(base, [2, 3, 4], base - back, told, expected)

    def test_a_row_without_entries_is_filled(self):
        self.assert_filled(0, [], 0, [4, 5], "01")
        self.assert_filled(4, [], 4, [4, 5], "01")
        self.assert_filled(4, [], 2, [4, 5], "")
        self.assert_filled(4, [], 2, [4, 5, 6], "2")
        self.assert_filled(4, [], 2, [4], "")
        self.assert_filled(4, [], 4, [], "")

    def test_the_term_ahead_is_not_asked_for(self):
        self.assert_filled(0, [2, 2], 1, [1], "a0")

    def test_prev_beyond_the_last_place_is_refused_and_nothing_changes(self):
        for base, terms in ((0, []), (0, [2, 3]), (6, []), (6, [2, 3]), (GREAT, [2, 3])):
            for more in (1, 2, 10 ** 41):
                for told in ([], entries_of([2, 9], 50), tuple(entries_of([2, 9], 50))):
                    with self.subTest(base=base, terms=terms, more=more):
                        row = row_of(base, terms)
                        before = state(row)
                        prev = base + len(terms) + more
                        with self.assertRaises(NoPlace) as caught:
                            row.fill(prev, told)
                        self.assertEqual(caught.exception.at, prev)
                        self.assertEqual(state(row), before)

    def test_a_roll_that_is_cut_is_in_force_no_longer(self):
        row = Row(0, 0, (1, 0), [(1, ("start",)), (1, ("roll", 1, 6)), (1, ask(1))])
        row.fill(1, [(2, ("start",))])
        self.assertEqual((row.roll(), row.roll_place()), ((1, 0), 0))
        row.fill(2, [(2, ("roll", 1, 14))])
        self.assertEqual((row.roll(), row.roll_place()), ((1, 14), 3))

    def test_what_is_handed_in_is_kept_as_a_copy(self):
        row = row_of(0, [])
        handed = entries_of([2, 3], 50)
        row.fill(0, handed)
        handed.append((9, ("start",)))
        handed[0] = (9, ("start",))
        self.assertEqual(row.entries(), entries_of([2, 3], 50))
        row.put((4, ("start",)))
        self.assertEqual(len(handed), 3)

    def test_great_terms(self):
        row = Row(GREAT, 1, (1, 0), [(10 ** 50, ask(1)), (10 ** 50 + 1, ask(2))])
        row.fill(GREAT, [(10 ** 50, ask(3)), (10 ** 50 + 2, ask(4))])
        self.assertEqual(row.entries(), [(10 ** 50, ask(1)), (10 ** 50 + 2, ask(4))])

    def test_a_list_of_the_row_itself(self):
        row = row_of(2, [2, 3])
        row.fill(4, row.entries())
        self.assertEqual(row.entries(), entries_of([2, 3], 0) * 2)


class AllSmallFillingsTest(unittest.TestCase):
    def test_against_rows_told_place_by_place(self):
        terms = [list(t) for size in range(4) for t in itertools.product((1, 2), repeat=size)]
        for base, own, told in itertools.product((0, 1, 2), terms, terms):
            for prev in range(base + len(own) + 1):
                row = row_of(base, own)
                ours = {base + 1 + k: entry for k, entry in enumerate(row.entries())}
                theirs = {prev + 1 + k: entry for k, entry in enumerate(entries_of(told, 50))}
                unlike = sorted(p for p in set(ours) & set(theirs) if ours[p][0] != theirs[p][0])
                parting = unlike[0] if unlike else None
                if unlike:
                    ours = {p: entry for p, entry in ours.items() if p < parting}
                last = max(ours, default=base)
                ours.update((p, entry) for p, entry in theirs.items() if p > last)
                self.assertEqual(row.parts(prev, entries_of(told, 50)), parting)
                row.fill(prev, entries_of(told, 50))
                self.assertEqual(row.entries(), [ours[p] for p in sorted(ours)])


if __name__ == "__main__":
    unittest.main()
