"""Texts that are no book: Torn, and the number of the row that is its value."""

import random
import re
import unittest

from chairvote.books import read_book, written
from chairvote.errors import HallError, Torn

FULL = (
    "book 9 59", "base 12 8 5 6", "value a 3", "value ab -4", "value b 1", "answer -2 5 7", "answer 0 -1 -9",
    "answer 0 0 0",
    "at 2 start", "at 2 ask 1 5 put a -3", "at 2 ask -7 -6 add abcdefgh 10", "at 3 ask 1 2 swap b 0 -1",
    "at 3 roll 7 56", "end 13",
)
HUNDRED = "9" * 100
TOO_LONG = "9" * 101

NUMBER = r"(?:0|-?[1-9][0-9]{0,99})"
COUNT = r"(?:0|[1-9][0-9]{0,99})"
NAME = r"[a-z]{1,8}"
KINDS = (
    ("book", rf"book ({COUNT}) (-|{COUNT})"),
    ("base", rf"base {COUNT} {COUNT} ({COUNT}) ({COUNT})"),
    ("value", rf"value ({NAME}) ({NUMBER})"),
    ("answer", rf"answer ({NUMBER}) ({NUMBER}) {NUMBER}"),
    ("at", rf"at {COUNT} (?:start|roll ({COUNT}) ({COUNT})"
           rf"|ask {NUMBER} {NUMBER} (?:(?:put|add) {NAME} {NUMBER}|swap {NAME} {NUMBER} {NUMBER}))"),
    ("end", rf"end ({COUNT})"),
)
BEHIND = {
    None: ("book",), "book": ("base",), "base": ("value", "answer", "at", "end"),
    "value": ("value", "answer", "at", "end"),
    "answer": ("answer", "at", "end"), "at": ("at", "end"), "end": (),
}


def is_roll(one, two):
    return 0 < int(one) < 1 << 60 and int(two) < 1 << 60


def stands(kind, found, ahead, count):
    """Whether a row of this kind may stand behind those ahead, which are pairs (kind, found)."""
    same = [other for other_kind, other in ahead if other_kind == kind]
    if kind == "book":
        return found[2] == "-" or int(found[2]) < 60
    if kind == "base":
        return is_roll(found[1], found[2])
    if kind == "value":
        return found[2] != "0" and (not same or same[-1][1] < found[1])
    if kind == "answer":
        key = (int(found[1]), int(found[2]))
        return not same or (int(same[-1][1]), int(same[-1][2])) < key
    if kind == "at":
        return found[1] is None or is_roll(found[1], found[2])
    return int(found[1]) == count


def torn_at(text):
    """By another way than the program's: the value of Torn for a text, or None for a book."""
    ahead = []
    rows = text.split("\n")
    for number, row in enumerate(rows, start=1):
        may_follow = BEHIND[ahead[-1][0] if ahead else None]
        found = [(kind, re.fullmatch(form, row)) for kind, form in KINDS if kind in may_follow]
        found = [(kind, match) for kind, match in found if match and stands(kind, match, ahead, number - 1)]
        if not found:
            return number
        ahead.append(found[0])
    return None if ahead[-1][0] == "end" else len(rows) + 1


class TornTest(unittest.TestCase):
    def assert_torn(self, text, at):
        with self.assertRaises(Torn) as caught:
            read_book(text)
        self.assertEqual(caught.exception.at, at, text)
        self.assertIsInstance(caught.exception, HallError)

    def assert_row_torn(self, number, row):
        """A full book, the row of this number another one, is torn there."""
        self.assert_torn("\n".join(FULL[:number - 1] + (row,) + FULL[number:]), number)
        self.assert_torn("\n".join(FULL[:number - 1] + (row,)), number)

    def assert_row_read(self, number, row):
        text = "\n".join(FULL[:number - 1] + (row,) + FULL[number:])
        self.assertEqual(written(read_book(text)), text)

    def test_the_full_book_is_one(self):
        self.assertEqual(written(read_book("\n".join(FULL))), "\n".join(FULL))

    def test_the_text_without_signs(self):
        self.assert_torn("", 1)
        self.assert_torn("\n", 1)
        self.assert_torn(" ", 1)
        self.assert_torn("\n" + "\n".join(FULL), 1)

    def test_rows_that_lack_at_the_end(self):
        for count in range(1, len(FULL)):
            self.assert_torn("\n".join(FULL[:count]), count + 1)

    def test_a_line_end_too_many(self):
        self.assert_torn("\n".join(FULL) + "\n", 15)
        self.assert_torn("\n".join(FULL) + "\n\n", 15)
        self.assert_torn("book 0 -\nbase 0 0 1 0\nend 2\n", 4)
        self.assert_torn("book 0 -\nbase 0 0 1 0\n", 3)
        for number in range(1, len(FULL) + 1):
            self.assert_torn("\n".join(FULL[:number - 1] + ("",) + FULL[number - 1:]), number)

    def test_anything_behind_the_end(self):
        for more in FULL + ("end 14", "end 15", " ", "x"):
            self.assert_torn("\n".join(FULL + (more,)), 15)
            self.assert_torn("\n".join(FULL + (more, more)), 15)

    def test_blanks_doubled_ahead_or_behind(self):
        for number, row in enumerate(FULL, start=1):
            self.assert_row_torn(number, row + " ")
            self.assert_row_torn(number, " " + row)
            for k, sign in enumerate(row):
                if sign == " ":
                    self.assert_row_torn(number, row[:k] + " " + row[k:])
                    self.assert_row_torn(number, row[:k] + row[k + 1:])

    def test_words_too_many_and_too_few(self):
        for number, row in enumerate(FULL, start=1):
            words = row.split(" ")
            for k in range(len(words)):
                self.assert_row_torn(number, " ".join(words[:k] + words[k + 1:]))
                self.assert_row_torn(number, " ".join(words[:k]))
            for more in ("0", "1", "-", "a", "start"):
                self.assert_row_torn(number, row + " " + more)

    def test_other_words(self):
        for number, row in enumerate(FULL, start=1):
            words = row.split(" ")
            for other in ("", "Book", "BASE", "x", "ends", "-"):
                self.assert_row_torn(number, " ".join([other] + words[1:]))
        for number, row in (
            (9, "at 2 begin"), (9, "at 2 Start"), (9, "at 2"), (9, "at"), (9, "at start"), (9, "at 2 start 3"),
            (9, "at 2 ask"),
            (9, "at 2 ask 1 5"), (9, "at 2 ask 1 5 put"), (9, "at 2 ask 1 5 put a"), (9, "at 2 ask 1 5 get a 3"),
            (9, "at 2 ask 1 5 put a 3 4"), (9, "at 2 ask 1 5 add a 3 4"), (9, "at 2 ask 1 5 swap a 3"),
            (9, "at 2 ask 1 5 swap a 3 4 5"), (9, "at 2 ask 1 put a 3"), (9, "at 2 ask 1 5 6 put a 3"),
            (9, "at 2 roll"),
            (9, "at 2 roll 7"), (9, "at 2 roll 7 0 0"), (9, "at 2 ask 1 5 start"), (9, "at 2 put a 3"),
            (9, "at 2 Put 1 5 put a 3"),
        ):
            self.assert_row_torn(number, row)

    def test_rows_out_of_order(self):
        for one in range(len(FULL) - 1):
            for two in range(one + 1, len(FULL)):
                rows = list(FULL)
                rows[one], rows[two] = rows[two], rows[one]
                text = "\n".join(rows)
                if torn_at(text) is None:
                    self.assertEqual(written(read_book(text)), text)
                else:
                    self.assert_torn(text, torn_at(text))
        self.assert_torn("base 0 0 1 0\nbook 0 -\nend 2", 1)
        self.assert_torn("book 0 -\nbook 0 -\nbase 0 0 1 0\nend 3", 2)
        self.assert_torn("book 0 -\nend 1", 2)
        self.assert_torn("end 0", 1)
        self.assert_torn("book 0 -\nbase 0 0 1 0\nbase 0 0 1 0\nend 3", 3)
        self.assert_torn("book 0 -\nbase 0 0 1 0\nat 1 start\nvalue a 1\nend 4", 4)
        self.assert_torn("book 0 -\nbase 0 0 1 0\nat 1 start\nanswer 1 1 1\nend 4", 4)
        self.assert_torn("book 0 -\nbase 0 0 1 0\nanswer 1 1 1\nvalue a 1\nend 4", 4)
        self.assert_torn("book 0 -\nvalue a 1\nbase 0 0 1 0\nend 3", 2)

    def test_forms_of_numbers(self):
        for number, form in (
            (1, "book {} -"), (1, "book 1 {}"), (2, "base {} 0 1 0"), (2, "base 0 {} 1 0"), (2, "base 0 0 {} 0"),
            (2, "base 0 0 1 {}"), (4, "value ab {}"), (6, "answer {} 5 7"), (7, "answer 0 {} 7"), (7, "answer 0 -1 {}"),
            (9, "at {} start"), (10, "at 1 ask {} 1 put a 1"), (10, "at 1 ask 1 {} put a 1"),
            (10, "at 1 ask 1 1 put a {}"),
            (10, "at 1 ask 1 1 add a {}"), (10, "at 1 ask 1 1 swap a {} 1"), (10, "at 1 ask 1 1 swap a 1 {}"),
            (13, "at 1 roll {} 0"), (13, "at 1 roll 1 {}"), (14, "end {}"),
        ):
            for word in (
                "", "+1", "+0", "01", "00", "007", "-0", "-01", "-00", "--1", "1-", "+-1", "-+1", "1.0", "1e3", "1_0",
                "0x1", "a",
                "1a", "a1", TOO_LONG, "-" + TOO_LONG, "0" + HUNDRED, "0" * 101, "1,0", "None", "+", "*",
            ):
                self.assert_row_torn(number, form.format(word))
            if number != 1 or form == "book {} -":
                self.assert_row_torn(number, form.format("-"))

    def test_numbers_of_a_hundred_figures(self):
        for number, form in (
            (1, "book {} -"), (2, "base {} 0 1 0"), (2, "base 0 {} 1 0"), (9, "at {} start"), (4, "value ab {}"),
            (7, "answer 0 -1 {}"), (8, "answer {} 5 7"), (8, "answer 0 {} 7"), (10, "at 1 ask {} 1 put a 1"),
            (10, "at 1 ask 1 {} put a 1"), (10, "at 1 ask 1 1 put a {}"), (10, "at 1 ask 1 1 add a {}"),
            (10, "at 1 ask 1 1 swap a {} 1"), (10, "at 1 ask 1 1 swap a 1 {}"),
        ):
            self.assert_row_read(number, form.format(HUNDRED))
            self.assert_row_read(number, form.format("1" + "0" * 99))
            self.assert_row_torn(number, form.format("1" + "0" * 100))
        for number, form in (
            (4, "value ab {}"), (6, "answer {} 5 7"), (6, "answer -2 {} 7"), (7, "answer 0 -1 {}"),
            (10, "at 1 ask {} 1 put a 1"),
            (10, "at 1 ask 1 {} add a 1"), (10, "at 1 ask 1 1 put a {}"), (10, "at 1 ask 1 1 swap a {} 1"),
        ):
            self.assert_row_read(number, form.format("-" + HUNDRED))
            self.assert_row_torn(number, form.format("-1" + "0" * 100))

    def test_terms_places_and_sets_below_0(self):
        for number, row in (
            (1, "book -1 -"), (2, "base -1 0 1 0"), (2, "base 0 -1 1 0"), (2, "base 0 0 -1 0"), (2, "base 0 0 1 -1"),
            (9, "at -1 start"), (9, "at -1 ask 1 1 put a 1"), (9, "at -1 roll 1 0"), (9, "at 1 roll -1 0"),
            (9, "at 1 roll 1 -1"),
            (9, "at -" + HUNDRED + " start"), (14, "end -1"), (14, "end -13"),
        ):
            self.assert_row_torn(number, row)

    def test_sets_at_and_beyond_the_bound(self):
        most = (1 << 60) - 1
        for form, number in (("base 0 0 {} {}", 2), ("at 1 roll {} {}", 13)):
            for one, two in ((1, 0), (most, 0), (1, most), (most, most), (1 << 59, 1 << 59), (6, 6)):
                self.assert_row_read(number, form.format(one, two))
            for one, two in (
                (0, 0), (0, 1), (0, most), (1 << 60, 0), (1, 1 << 60), ((1 << 60) + 1, 0), (1, (1 << 60) + 1),
                (1 << 61, 0),
                (HUNDRED, 0), (1, HUNDRED),
            ):
                self.assert_row_torn(number, form.format(one, two))

    def test_votes(self):
        for vote in ("-", "0", "1", "58", "59"):
            self.assert_row_read(1, "book 9 " + vote)
        for vote in ("60", "61", "-1", "-59", "100", HUNDRED, "--", "- -", "x", "", "none", "00", "059"):
            self.assert_row_torn(1, "book 9 " + vote)

    def test_values_of_0(self):
        for number, row in ((3, "value a 0"), (4, "value ab 0"), (5, "value b 0")):
            self.assert_row_torn(number, row)

    def test_names(self):
        for number, form in (
            (4, "value {} 3"), (10, "at 1 ask 1 1 put {} 1"), (10, "at 1 ask 1 1 add {} 1"),
            (10, "at 1 ask 1 1 swap {} 1 2"),
        ):
            for name in ("", "abcdefghi", "a" * 20, "aB", "A", "a1", "1", "a-", "a_b", "-", "a.", "{", "`", "a\tb"):
                self.assert_row_torn(number, form.format(name))
            for name in ("aa", "abcdefgh", "azzzzzzz"):
                self.assert_row_read(number, form.format(name))

    def test_names_out_of_order_or_twice(self):
        for number, row in ((4, "value a 3"), (4, "value a 9"), (5, "value ab 1"), (5, "value aa 1"), (5, "value a 1")):
            self.assert_row_torn(number, row)
        self.assert_row_torn(3, "value a 0")
        head = "book 0 -\nbase 0 0 1 0\n"
        self.assert_torn(head + "value b 1\nvalue a 1\nend 4", 4)
        self.assert_torn(head + "value ab 1\nvalue a 1\nend 4", 4)
        self.assert_torn(head + "value b 1\nvalue ab 1\nend 4", 4)
        self.assertEqual(read_book(head + "value ab 1\nvalue b 1\nend 4").kept, ((("ab", 1), ("b", 1)), ()))

    def test_answers_out_of_order_or_twice(self):
        for number, row in (
            (7, "answer -2 5 7"), (7, "answer -2 5 8"), (7, "answer -2 4 7"), (7, "answer -3 9 7"),
            (8, "answer 0 -1 0"),
            (8, "answer 0 -2 0"), (8, "answer -1 9 0"), (8, "answer 0 -10 0"),
        ):
            self.assert_row_torn(number, row)
        head = "book 0 -\nbase 0 0 1 0\n"
        self.assert_torn(head + "answer 10 0 1\nanswer 9 0 1\nend 4", 4)
        self.assert_torn(head + "answer 1 10 1\nanswer 1 9 1\nend 4", 4)
        self.assertEqual(read_book(head + "answer 9 0 1\nanswer 10 -5 0\nend 4").kept, ((), ((9, 0, 1), (10, -5, 0))))
        self.assertEqual(read_book(head + "answer 9 9 1\nanswer 9 10 0\nend 4").kept, ((), ((9, 9, 1), (9, 10, 0))))

    def test_the_count_at_the_end(self):
        for row in (
            "end 12", "end 14", "end 0", "end 1", "end 130", "end", "end 13 13", "end x", "end -13", "end 013", "end -",
        ):
            self.assert_row_torn(14, row)
        for early in range(3, 14):
            self.assert_torn("\n".join(FULL[:early - 1] + ("end 13",)), early)
            book = read_book("\n".join(FULL[:early - 1] + (f"end {early - 1}",)))
            self.assertEqual(len(book.row.entries()), max(0, early - 9))

    def test_every_cut(self):
        text = "\n".join(FULL)
        for size in range(len(text)):
            cut = text[:size]
            self.assertIsNotNone(torn_at(cut))
            self.assert_torn(cut, torn_at(cut))

    def test_some_cuts_by_name(self):
        self.assert_torn("b", 1)
        self.assert_torn("book 9", 1)
        self.assert_torn("book 9 ", 1)
        self.assert_torn("book 9 5", 2)
        self.assert_torn("book 9 59\n", 2)
        self.assert_torn("book 9 59\nbase 12 8 5 6\nval", 3)
        self.assert_torn("book 9 59\nbase 12 8 5 6\nvalue ab -", 3)
        self.assert_torn("book 9 59\nbase 12 8 5 6\nvalue ab -4", 4)
        self.assert_torn("\n".join(FULL)[:-1], 14)
        self.assert_torn("\n".join(FULL)[:-7], 14)

    def test_one_sign_changed_lost_or_put_in(self):
        text = "\n".join(FULL)
        for k in range(len(text)):
            for sign in " \n-0159azZ~":
                for other in (text[:k] + sign + text[k + 1:], text[:k] + sign + text[k:], text[:k] + text[k + 1:]):
                    at = torn_at(other)
                    if at is None:
                        self.assertEqual(written(read_book(other)), other)
                    else:
                        self.assert_torn(other, at)

    def test_rows_mixed_at_random(self):
        chance = random.Random(18)
        rows = FULL + (
            "end 3", "end 4", "end 5", "value c 0", "value zz 5", "answer 7 7 7", "at 0 start", "at 5 roll 0 1",
            "book 1 -",
            "base 0 0 1 0", "",
        )
        for trial in range(3000):
            first = FULL[:chance.choice((0, 1, 2, 2, 2, 5))]
            text = "\n".join(first + tuple(chance.choices(rows, k=chance.randrange(6))))
            at = torn_at(text)
            if at is None:
                self.assertEqual(written(read_book(text)), text)
            else:
                self.assert_torn(text, at)


if __name__ == "__main__":
    unittest.main()
