"""Hands of a hall that fall and come up again: what their book keeps stays, and nothing more."""

import unittest

from chairvote.halls import Hall
from tests.halldeeds import carry_all, chaired_hall, hall_state, lose_all
from tests.making import EMPTY, START

ADD = ("add", "a", 5)


class FallTest(unittest.TestCase):
    def fall_and_rise(self, hall, h):
        """Gives what the hand's view and book are while it is down, and behind its coming up."""
        self.assertIsNone(hall.fall(h))
        down = (hall.view(h), hall.book(h))
        self.assertIsNone(hall.rise(h))
        return down, (hall.view(h), hall.book(h))

    def test_a_hand_that_sits(self):
        hall = Hall(2, 3, 6)
        text = "book 6 -\nbase 0 0 3 0\nend 2"
        down, up = self.fall_and_rise(hall, 0)
        self.assertEqual(down, (("away", 6, None, None, 0, 0, EMPTY), text))
        self.assertEqual(up, (("sits", 6, None, None, 0, 0, EMPTY), text))
        self.assertEqual((hall.road(), hall.papers()), ([], []))

    def test_a_hand_that_asks_keeps_its_term_and_vote(self):
        hall = Hall(3, 7)
        hall.ring(1)
        papers, road = hall.papers(), hall.road()
        down, up = self.fall_and_rise(hall, 1)
        text = "book 1 1\nbase 0 0 7 0\nend 2"
        self.assertEqual(down, (("away", 1, 1, None, 0, 0, EMPTY), text))
        self.assertEqual(up, (("sits", 1, 1, None, 0, 0, EMPTY), text))
        self.assertEqual((hall.road(), hall.papers()), (road, papers))
        hall.carry(0)
        hall.carry(1)
        self.assertEqual(hall.view(1)[0], "sits")
        self.assertEqual(hall.road(), road[1:])

    def test_a_voter_keeps_its_vote_and_gives_no_other(self):
        hall = Hall(3, 7)
        hall.ring(0)
        hall.ring(2)
        hall.carry(0)
        self.assertEqual(hall.book(1), "book 1 0\nbase 0 0 7 0\nend 2")
        self.fall_and_rise(hall, 1)
        self.assertEqual(hall.view(1), ("sits", 1, 0, None, 0, 0, EMPTY))
        papers, road = hall.papers(), hall.road()
        self.assertEqual(road[2], ("please", 2, 1, 1, (0, 0)))
        hall.carry(2)
        self.assertEqual((hall.road(), hall.papers()), (road[:2] + road[3:], papers))

    def test_a_chair_is_none_then(self):
        hall = chaired_hall()
        hall.ask(0, 4, 1, ADD)
        carry_all(hall)
        text = "book 1 0\nbase 0 0 7 0\nat 1 start\nat 1 ask 4 1 add a 5\nend 4"
        self.assertEqual(hall.view(0), ("chairs", 1, 0, 0, 2, 2, ((("a", 5),), ((4, 1, 5),))))
        self.assertEqual(hall.book(0), text)
        papers = hall.papers()
        down, up = self.fall_and_rise(hall, 0)
        self.assertEqual(down, (("away", 1, 0, None, 0, 0, EMPTY), text))
        self.assertEqual(up, (("sits", 1, 0, None, 0, 0, EMPTY), text))
        self.assertEqual((hall.road(), hall.papers()), ([], papers))
        hall.ring(0)
        self.assertEqual(hall.road(), [("please", 0, h, 2, (1, 2)) for h in (1, 2)])
        self.assertEqual(hall.papers(), papers + [("vote", 0, 2, 0)])

    def test_a_folded_row_keeps_its_base_and_the_shelf_there(self):
        hall = chaired_hall()
        hall.ask(0, 4, 1, ADD)
        carry_all(hall)
        self.assertEqual(hall.fold(0), 2)
        hall.ask(0, 4, 2, ADD)
        carry_all(hall)
        text = "book 1 0\nbase 2 1 7 0\nvalue a 5\nanswer 4 1 5\nat 1 ask 4 2 add a 5\nend 5"
        self.assertEqual(hall.view(0)[4:], (3, 3, ((("a", 10),), ((4, 1, 5), (4, 2, 10)))))
        down, up = self.fall_and_rise(hall, 0)
        shelf = ((("a", 5),), ((4, 1, 5),))
        self.assertEqual(down, (("away", 1, 0, None, 2, 2, shelf), text))
        self.assertEqual(up, (("sits", 1, 0, None, 2, 2, shelf), text))

    def test_all_that_a_book_keeps_at_once(self):
        hall = Hall(4, 7, 10 ** 45)
        hall.ring(0)
        carry_all(hall)
        term = 10 ** 45 + 1
        for order in (("put", "abcdefgh", -3), ("swap", "abcdefgh", -3, 10 ** 50), ADD):
            hall.ask(0, -1, len(hall.papers()), order)
        carry_all(hall)
        hall.ring(0)
        carry_all(hall)
        hall.fold(1)
        hall.change(0, 14)
        hall.carry(0)
        text = hall.book(1)
        numbers = [paper[3] for paper in hall.papers() if paper[0] == "answer"]
        shelf = ((("a", 5), ("abcdefgh", 10 ** 50)), tuple((-1, n, k) for n, k in zip(numbers, (0, 1, 5))))
        rows = [f"book {term} 0", f"base 4 {term} 7 0", "value a 5", f"value abcdefgh {10 ** 50}"]
        rows += [f"answer -1 {n} {k}" for n, k in zip(numbers, (0, 1, 5))]
        rows += [f"at {term} roll 7 14", "end 8"]
        self.assertEqual(text, "\n".join(rows))
        down, up = self.fall_and_rise(hall, 1)
        self.assertEqual(down, (("away", term, 0, None, 4, 4, shelf), text))
        self.assertEqual(up, (("sits", term, 0, None, 4, 4, shelf), text))

    def test_looks_that_wait_are_forgotten(self):
        hall = chaired_hall()
        hall.look(0, 9, "a")
        tells = hall.road()
        self.fall_and_rise(hall, 0)
        self.assertEqual(hall.road(), tells)
        carry_all(hall)
        hall.ring(0)
        carry_all(hall)
        self.assertEqual(hall.view(0)[0], "chairs")
        self.assertEqual(hall.answers(), [])

    def test_a_hand_that_came_up_takes_letters_and_tells_papers(self):
        hall = chaired_hall()
        hall.fall(2)
        hall.ask(0, 4, 1, ADD)
        carry_all(hall)
        self.assertEqual(hall.view(2), ("away", 1, 0, None, 0, 0, EMPTY))
        hall.rise(2)
        hall.ring(0)
        papers = hall.papers()
        self.assertEqual(hall.road()[1], ("tell", 0, 2, 1, 3, 1, 1, ((1, ("ask", 4, 1, ADD)),), 2))
        hall.carry(1)
        self.assertEqual(hall.papers(), papers + [("told", 2, 1, 2, 3)])
        self.assertEqual(hall.view(2), ("sits", 1, 0, 0, 2, 2, ((("a", 5),), ((4, 1, 5),))))

    def test_again_and_again(self):
        hall = chaired_hall(2, 3)
        for again in range(5):
            hall.ask(0, 4, again, ADD)
            carry_all(hall)
            text = hall.book(1)
            down, up = self.fall_and_rise(hall, 1)
            self.assertEqual((down[1], up[1]), (text, text))
            hall.ring(0)
            carry_all(hall)
            self.assertEqual(hall.view(1)[4:6], (again + 2, again + 2))

    def test_all_hands_down_and_up(self):
        hall = chaired_hall(9, 511)
        hall.ask(0, 4, 1, ADD)
        lose_all(hall)
        books = [hall.book(h) for h in range(9)]
        for h in range(9):
            hall.fall(h)
        self.assertEqual([hall.view(h)[0] for h in range(9)], ["away"] * 9)
        self.assertEqual([hall.book(h) for h in range(9)], books)
        for h in reversed(range(9)):
            hall.rise(h)
            self.assertEqual([hall.view(k)[0] for k in range(9)], ["away"] * h + ["sits"] * (9 - h))
        self.assertEqual([hall.book(h) for h in range(9)], books)

    def test_others_are_not_touched(self):
        hall = chaired_hall()
        hall.look(0, 9, "a")
        before = hall_state(hall, 3)
        hall.fall(1)
        behind = hall_state(hall, 3)
        self.assertEqual(behind[:3], before[:3])
        self.assertEqual([behind[3][h] for h in (0, 2)], [before[3][h] for h in (0, 2)])
        self.assertEqual(behind[4], before[4])
        self.assertEqual(behind[3][1], ("away", 1, 0, None, 0, 0, EMPTY))

    def test_a_row_cut_behind_a_fall(self):
        hall = Hall(3, 7)
        hall.ring(0)
        hall.carry(0)
        hall.carry(1)
        lose_all(hall)
        hall.ask(0, 4, 1, ADD)
        lose_all(hall)
        hall.fall(0)
        hall.ring(1)
        hall.lose(0)
        carry_all(hall)
        self.assertEqual(hall.book(0), "book 1 0\nbase 0 0 7 0\nat 1 start\nat 1 ask 4 1 add a 5\nend 4")
        hall.rise(0)
        hall.ring(1)
        carry_all(hall)
        self.assertEqual(hall.book(0), "book 2 -\nbase 0 0 7 0\nat 2 start\nend 3")
        self.assertEqual(hall.view(0), ("sits", 2, None, 1, 1, 1, EMPTY))
        self.assertIn(("write", 2, 1, START), hall.papers())


if __name__ == "__main__":
    unittest.main()
