"""The papers of a hall, told by all its hands in the order in which things happen; and its answers."""

import unittest

from chairvote.halls import Hall
from tests.halldeeds import carry_all, chaired_hall, lose_all
from tests.making import START

ADD = ("ask", 5, 1, ("add", "a", 3))
PUT = ("ask", 5, 1, ("put", "b", -4))


class Story(unittest.TestCase):
    def begin(self, hall):
        self.hall = hall
        self.papers = hall.papers()

    def tells(self, *papers):
        """What was told since the last time."""
        self.assertEqual(self.hall.papers()[len(self.papers):], list(papers))
        self.papers += papers
        self.assertEqual(self.hall.papers(), self.papers)


class PapersTest(Story):
    def test_none_at_first(self):
        for number in (1, 9):
            self.assertEqual(Hall(number, 1).papers(), [])
            self.assertEqual(Hall(number, 1).answers(), [])

    def test_votes_and_a_chair_while_two_ask(self):
        self.begin(Hall(4, 7))
        self.hall.ring(0)
        self.tells(("vote", 0, 1, 0))
        self.hall.ring(2)
        self.tells(("vote", 2, 1, 2))
        self.hall.carry(0)
        self.tells(("vote", 1, 1, 0))
        self.hall.carry(3)
        self.tells(("chair", 0, 1, 3), ("write", 1, 1, START), ("beat", 1, 1))
        carry_all(self.hall)
        self.tells(("told", 1, 1, 1, 1), ("told", 2, 1, 1, 1), ("settle", 1, 1, 3))

    def test_an_ask_a_look_and_a_change(self):
        self.begin(chaired_hall(4, 7))
        self.hall.ask(0, *ADD[1:])
        self.tells(("write", 1, 2, ADD), ("beat", 1, 2))
        carry_all(self.hall)
        self.tells(("told", 1, 1, 2, 2), ("told", 2, 1, 2, 2), ("settle", 1, 2, 3), ("answer", 1, 5, 1, 2, 3))
        self.hall.look(0, 6, "a")
        self.tells(("beat", 1, 3), ("look", 1, 3, 6, "a", 2))
        carry_all(self.hall)
        self.tells(("told", 1, 1, 2, 3), ("told", 2, 1, 2, 3), ("seen", 1, 3, 6, "a", 2, 3, 3))
        self.hall.change(0, 14)
        self.tells(("write", 1, 3, ("roll", 7, 14)), ("beat", 1, 4))
        carry_all(self.hall)
        self.tells(
            ("told", 1, 1, 3, 4), ("told", 2, 1, 3, 4), ("told", 3, 1, 3, 4),
            ("settle", 1, 3, 7), ("write", 1, 4, ("roll", 14, 0)), ("beat", 1, 5),
            ("told", 1, 1, 4, 5), ("told", 2, 1, 4, 5), ("told", 3, 1, 4, 5), ("told", 2, 1, 4, 5),
            ("told", 3, 1, 4, 5), ("settle", 1, 4, 7),
        )
        self.assertEqual(self.hall.answers(), [("answer", 1, 5, 1, 2, 3), ("seen", 1, 3, 6, "a", 2, 3, 3)])

    def test_another_chair_behind_a_fall(self):
        self.begin(chaired_hall())
        hall = self.hall
        hall.ask(0, *PUT[1:])
        hall.carry(0)
        hall.look(0, 6, "b")
        self.tells(
            ("write", 1, 2, PUT), ("beat", 1, 2), ("told", 1, 1, 2, 2), ("beat", 1, 3), ("look", 1, 3, 6, "b", 1),
        )
        lose_all(hall)
        hall.fall(0)
        hall.ring(1)
        self.tells(("vote", 1, 2, 1))
        carry_all(hall)
        self.tells(
            ("vote", 2, 2, 1), ("chair", 1, 2, 6), ("write", 2, 3, START), ("beat", 2, 1), ("told", 2, 2, 0, 1),
            ("told", 2, 2, 3, 1), ("settle", 2, 3, 6), ("answer", 2, 5, 1, 2, 0),
        )
        hall.look(1, 6, "b")
        hall.look(1, 7, "c")
        self.tells(("beat", 2, 2), ("look", 2, 2, 6, "b", 3), ("beat", 2, 3), ("look", 2, 3, 7, "c", 3))
        carry_all(hall)
        seen = (("seen", 2, 2, 6, "b", 3, -4, 6), ("seen", 2, 3, 7, "c", 3, 0, 6))
        self.tells(("told", 2, 2, 3, 2), ("told", 2, 2, 3, 3), *seen)
        hall.fold(1)
        hall.rise(0)
        self.tells()
        hall.ring(1)
        self.assertEqual(hall.road()[0][0], "whole")
        carry_all(hall)
        self.tells(("beat", 2, 4), ("told", 0, 2, 3, 4), ("told", 2, 2, 3, 4))
        self.assertEqual(hall.answers(), [("answer", 2, 5, 1, 2, 0)] + list(seen))

    def test_an_ask_that_is_answered_again(self):
        self.begin(chaired_hall(2, 3))
        for order in (("add", "a", 3), ("put", "a", 100)):
            self.hall.ask(0, 5, 1, order)
            carry_all(self.hall)
        self.assertEqual(self.hall.answers(), [("answer", 1, 5, 1, 2, 3), ("answer", 1, 5, 1, 3, 3)])
        self.assertEqual(self.hall.view(0)[6], ((("a", 3),), ((5, 1, 3),)))

    def test_papers_of_hands_that_fell_stay(self):
        self.begin(chaired_hall())
        for h in range(3):
            self.hall.fall(h)
        self.tells()

    def test_letters_that_are_lost_and_doubled_tell_nothing(self):
        self.begin(chaired_hall())
        self.hall.ring(0)
        self.tells(("beat", 1, 2))
        self.hall.double(1)
        self.hall.lose(0)
        self.tells()

    def test_answers_are_the_papers_that_begin_so_in_their_order(self):
        hall = chaired_hall(3, 7)
        for number in range(4):
            hall.ask(0, 5, number, ("add", "a", 1))
            hall.look(0, 6, "a")
        carry_all(hall)
        answers = [paper for paper in hall.papers() if paper[0] in ("answer", "seen")]
        self.assertEqual(len(answers), 8)
        self.assertEqual(hall.answers(), answers)
        self.assertEqual([paper[0] for paper in answers], ["answer", "seen"] * 4)

    def test_lists_that_were_given_are_the_askers_own(self):
        hall = chaired_hall()
        hall.ask(0, 5, 1, ("add", "a", 3))
        carry_all(hall)
        papers, answers = hall.papers(), hall.answers()
        for given in (hall.papers(), hall.answers()):
            given[0] = ("vote", 2, 9, 2)
            given.append(("beat", 1, 1))
        self.assertEqual((hall.papers(), hall.answers()), (papers, answers))
        given = hall.papers(), hall.answers()
        hall.ask(0, 5, 2, ("add", "a", 3))
        carry_all(hall)
        self.assertEqual(given, (papers, answers))
        self.assertEqual(hall.papers()[:len(papers)], papers)

    def test_a_list_that_was_given_is_handed_on_by_nothing(self):
        hall = chaired_hall()
        hall.papers().clear()
        hall.road().append(("late", 1, 0, 9))
        hall.ring(1)
        self.assertEqual(len(hall.road()), 2)
        self.assertEqual(hall.papers()[-1], ("vote", 1, 2, 1))


if __name__ == "__main__":
    unittest.main()
