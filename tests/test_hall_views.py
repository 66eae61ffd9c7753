"""Views of a hall's hands, and their books as text."""

import unittest

from chairvote.books import read_book, written
from chairvote.halls import Hall
from tests.halldeeds import carry_all, chaired_hall
from tests.making import EMPTY, GREAT_TERM

SHELF = ((("a", 3), ("bc", -1)), ((5, 1, 3), (5, 2, 0)))


def asked_hall(number=3, S=7, term=0):
    hall = chaired_hall(number, S, 0, term)
    hall.ask(0, 5, 1, ("add", "a", 3))
    hall.ask(0, 5, 2, ("put", "bc", -1))
    carry_all(hall)
    return hall


class ViewTest(unittest.TestCase):
    def test_a_hand_that_asks(self):
        hall = Hall(3, 7, 5)
        hall.ring(2)
        self.assertEqual(hall.view(2), ("asks", 6, 2, None, 0, 0, EMPTY))
        hall.ring(2)
        self.assertEqual(hall.view(2), ("asks", 7, 2, None, 0, 0, EMPTY))

    def test_a_hand_that_voted(self):
        hall = Hall(3, 7)
        hall.ring(2)
        hall.carry(0)
        self.assertEqual(hall.view(0), ("sits", 1, 2, None, 0, 0, EMPTY))
        self.assertEqual(hall.view(1), ("sits", 0, None, None, 0, 0, EMPTY))

    def test_a_hand_that_chairs_and_those_that_follow(self):
        hall = asked_hall()
        self.assertEqual(hall.view(0), ("chairs", 1, 0, 0, 3, 3, SHELF))
        hall.ring(0)
        hall.carry(0)
        self.assertEqual(hall.view(1), ("sits", 1, 0, 0, 3, 3, SHELF))
        self.assertEqual(hall.view(2)[:4], ("sits", 1, 0, 0))

    def test_settled_places_of_those_that_follow_come_later(self):
        hall = chaired_hall(2, 3)
        self.assertEqual(hall.view(0), ("chairs", 1, 0, 0, 1, 1, EMPTY))
        self.assertEqual(hall.view(1), ("sits", 1, 0, 0, 0, 0, EMPTY))
        hall.ring(0)
        hall.carry(0)
        self.assertEqual(hall.view(1), ("sits", 1, 0, 0, 1, 1, EMPTY))

    def test_a_greater_term_takes_the_chair_away(self):
        hall = asked_hall(term=GREAT_TERM)
        hall.ring(1)
        hall.carry(0)
        term = GREAT_TERM + 2
        self.assertEqual(hall.view(0), ("sits", term, 1, None, 3, 3, SHELF))
        self.assertEqual(hall.view(1)[:4], ("asks", term, 1, None))

    def test_a_hand_that_is_away(self):
        for fold in (False, True):
            hall = asked_hall()
            if fold:
                hall.fold(0)
            hall.fall(0)
            view = ("away", 1, 0, None) + ((3, 3, SHELF) if fold else (0, 0, EMPTY))
            self.assertEqual(hall.view(0), view)

    def test_a_hand_that_is_away_without_a_vote(self):
        hall = chaired_hall(3, 3)
        hall.fall(2)
        self.assertEqual(hall.view(2), ("away", 0, None, None, 0, 0, EMPTY))
        hall.rise(2)
        hall.change(0, 7)
        carry_all(hall)
        hall.fall(2)
        self.assertEqual(hall.view(2), ("away", 1, None, None, 0, 0, EMPTY))

    def test_views_are_the_same_each_time(self):
        hall = asked_hall()
        hall.fall(2)
        for h in range(3):
            self.assertEqual(hall.view(h), hall.view(h))
            self.assertIsInstance(hall.view(h), tuple)
        hall.rise(2)
        self.assertEqual(hall.view(2)[0], "sits")


class BookTest(unittest.TestCase):
    def test_new(self):
        self.assertEqual(Hall(9, 257, GREAT_TERM).book(8), f"book {GREAT_TERM} -\nbase 0 0 257 0\nend 2")

    def test_with_entries_of_every_kind(self):
        hall = asked_hall()
        hall.ask(0, -7, 10 ** 45, ("swap", "abcdefgh", -1, 0))
        hall.change(0, 3)
        carry_all(hall)
        rows = [
            "book 1 0", "base 0 0 7 0", "at 1 start", "at 1 ask 5 1 add a 3", "at 1 ask 5 2 put bc -1",
            f"at 1 ask -7 {10 ** 45} swap abcdefgh -1 0", "at 1 roll 7 3", "at 1 roll 3 0", "end 8",
        ]
        self.assertEqual(hall.book(0), "\n".join(rows))
        self.assertEqual(hall.book(1), "\n".join(rows))

    def test_folded(self):
        hall = asked_hall()
        hall.fold(0)
        hall.change(0, 3)
        text = "book 1 0\nbase 3 1 7 0\nvalue a 3\nvalue bc -1\nanswer 5 1 3\nanswer 5 2 0\nat 1 roll 7 3\nend 7"
        self.assertEqual(hall.book(0), text)

    def test_down_or_not(self):
        for fold in (False, True):
            hall = asked_hall()
            if fold:
                hall.fold(0)
            for h in range(3):
                text = hall.book(h)
                hall.fall(h)
                self.assertEqual(hall.book(h), text)
                hall.rise(h)
                self.assertEqual(hall.book(h), text)

    def test_it_is_read_and_written_to_the_same_text(self):
        hall = asked_hall()
        for h in range(3):
            self.assertEqual(written(read_book(hall.book(h))), hall.book(h))

    def test_a_book_that_was_given_stays(self):
        hall = asked_hall()
        text = hall.book(0)
        hall.ask(0, 5, 9, ("add", "a", 1))
        self.assertNotEqual(hall.book(0), text)
        self.assertTrue(text.endswith("end 5"))


if __name__ == "__main__":
    unittest.main()
