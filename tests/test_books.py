"""Books: what they keep, how they are written, and that what is written is read."""

import itertools
import unittest

from chairvote.books import Book, read_book, written
from chairvote.rows import Row
from tests.making import GREAT, GREAT_TERM, START, ask, book_of, book_state

KEPT = ((("a", 3), ("ab", -4), ("zzzzzzzz", 10 ** 41)), ((-2, 5, 7), (0, -1, -9), (0, 0, 0), (10 ** 40, 1, 1)))
ENTRIES = (
    (2, START), (2, ask(5, ("put", "a", -3), 1)), (2, ask(-6, ("add", "abcdefgh", 10 ** 59), -7)),
    (3, ask(10 ** 45, ("swap", "b", 0, -1), 10 ** 44)), (3, ("roll", 7, 56)), (1, ("roll", (1 << 60) - 1, 0)),
)
FULL = (
    "book 9 59\n"
    "base 12 8 5 6\n"
    "value a 3\n"
    "value ab -4\n"
    "value zzzzzzzz 1" + "0" * 41 + "\n"
    "answer -2 5 7\n"
    "answer 0 -1 -9\n"
    "answer 0 0 0\n"
    "answer 1" + "0" * 40 + " 1 1\n"
    "at 2 start\n"
    "at 2 ask 1 5 put a -3\n"
    "at 2 ask -7 -6 add abcdefgh 1" + "0" * 59 + "\n"
    "at 3 ask 1" + "0" * 44 + " 1" + "0" * 45 + " swap b 0 -1\n"
    "at 3 roll 7 56\n"
    "at 1 roll 1152921504606846975 0\n"
    "end 15"
)


class BookTest(unittest.TestCase):
    def test_a_book_has_its_values(self):
        row = Row(12, 8, (5, 6), list(ENTRIES))
        for term, vote in ((0, None), (9, 0), (9, 59), (GREAT_TERM, 3)):
            book = Book(term, vote, row, KEPT)
            self.assertEqual((book.term, book.vote, book.kept), (term, vote, KEPT))
            self.assertIsInstance(book.row, Row)
            self.assertEqual(book_state(book)[2], (12, 8, (5, 6), list(ENTRIES)))

    def test_nothing_done_to_the_row_handed_in_changes_the_book_nor_the_other_way(self):
        for change in (
            lambda row: row.put((9, START)), lambda row: row.fill(13, [(9, START)]), lambda row: row.fold(14),
            lambda row: row.rebase(40, 8, (9, 0)),
        ):
            row = Row(12, 8, (5, 6), list(ENTRIES))
            book = Book(9, 59, row, KEPT)
            text = written(book)
            change(row)
            self.assertEqual(written(book), text)
            row = Row(12, 8, (5, 6), list(ENTRIES))
            book = Book(9, 59, row, KEPT)
            change(book.row)
            self.assertEqual(row.entries(), list(ENTRIES))
            self.assertEqual(row.base, 12)

    def test_two_books_of_one_row_are_apart(self):
        row = Row(12, 8, (5, 6), list(ENTRIES))
        one = Book(9, 59, row, KEPT)
        two = Book(9, 59, row, KEPT)
        one.row.put((9, START))
        self.assertEqual(written(two), FULL)


class WrittenTest(unittest.TestCase):
    def test_the_least_book(self):
        self.assertEqual(written(book_of(roll=(1, 0))), "book 0 -\nbase 0 0 1 0\nend 2")

    def test_a_full_book(self):
        self.assertEqual(written(book_of(9, 59, 12, 8, (5, 6), ENTRIES, KEPT)), FULL)

    def test_with_and_without_each_part(self):
        texts = {
            "vote": ("book 4 -", "book 4 0"),
            "kept": ([], ["value b -1"]),
            "answers": ([], ["answer 3 4 -5"]),
            "entries": ([], ["at 6 start"]),
        }
        for vote, value, answer, entry in itertools.product((0, 1), repeat=4):
            kept = (((), (("b", -1),))[value], ((), ((3, 4, -5),))[answer])
            book = book_of(4, (None, 0)[vote], 7, 2, (3, 0), ((), ((6, START),))[entry], kept)
            rows = [texts["vote"][vote], "base 7 2 3 0"]
            rows += texts["kept"][value] + texts["answers"][answer] + texts["entries"][entry]
            rows.append("end %d" % len(rows))
            self.assertEqual(written(book), "\n".join(rows))
            self.assertEqual(book_state(read_book(written(book))), book_state(book))

    def test_a_vote_for_hand_0_is_written_as_one(self):
        self.assertTrue(written(book_of(3, 0)).startswith("book 3 0\n"))

    def test_great_terms_and_places(self):
        book = book_of(GREAT_TERM + 1, 2, GREAT, GREAT_TERM, (7, 0), [(GREAT_TERM, START)])
        rows = written(book).split("\n")
        self.assertEqual(rows, [
            "book 7" + "0" * 49 + "1 2", "base 1" + "0" * 45 + " 7" + "0" * 50 + " 7 0", "at 7" + "0" * 50 + " start",
            "end 3",
        ])

    def test_writing_changes_nothing(self):
        book = book_of(9, 59, 12, 8, (5, 6), ENTRIES, KEPT)
        before = book_state(book)
        self.assertEqual(written(book), written(book))
        self.assertEqual(book_state(book), before)


class ReadTest(unittest.TestCase):
    def books(self):
        for vote, base, roll, count, kept in itertools.product(
            (None, 0, 59), (0, 3, GREAT), ((1, 0), (5, 6)), range(len(ENTRIES) + 1),
            (((), ()), KEPT, (KEPT[0], ()), ((), KEPT[1])),
        ):
            yield book_of(count, vote, base, 4, roll, ENTRIES[:count], kept)

    def test_a_written_book_is_read_to_a_like_one_and_written_the_same(self):
        for book in self.books():
            text = written(book)
            like = read_book(text)
            self.assertIsInstance(like, Book)
            self.assertEqual(book_state(like), book_state(book))
            self.assertEqual(written(like), text)

    def test_the_kinds_of_what_is_read(self):
        book = read_book(FULL)
        parts = [book.kept, book.kept[0], book.kept[1], book.row.base_roll]
        parts += list(book.kept[0]) + list(book.kept[1])
        for entry in book.row.entries():
            parts += [entry, entry[1]] + [part for part in entry[1] if not isinstance(part, (int, str))]
        for part in parts:
            self.assertIs(part.__class__, tuple)
        self.assertIs(book.row.__class__, Row)
        self.assertIsNone(read_book("book 0 -\nbase 0 0 1 0\nend 2").vote)

    def test_two_readings_are_apart(self):
        one = read_book(FULL)
        two = read_book(FULL)
        self.assertEqual(one.row.put((9, START)), 19)
        self.assertEqual(written(two), FULL)
        self.assertEqual(written(read_book(FULL)), FULL)
        self.assertEqual(written(one), FULL[:-len("end 15")] + "at 9 start\nend 16")

    def test_nothing_more_is_looked_at(self):
        for text in (
            "book 0 7\nbase 0 9 1 0\nend 2",
            "book 1 -\nbase 0 0 1 1\nat 9 start\nat 3 start\nat 0 start\nend 5",
            "book 1 -\nbase 4 0 1 0\nat 1 roll 3 5\nat 1 roll 3 6\nend 4",
            "book 1 -\nbase 0 0 1 0\nvalue a 1\nanswer 1 1 1\nend 4",
            "book 1 -\nbase 0 0 1 0\nat 1 ask 1 1 put a 0\nat 1 ask 1 1 put a 0\nend 4",
            "book 1 -\nbase 0 0 1 0\nvalue put 1\nvalue start 1\nat 1 ask 0 0 swap swap 3 3\nend 5",
        ):
            with self.subTest(text=text):
                self.assertEqual(written(read_book(text)), text)


if __name__ == "__main__":
    unittest.main()
