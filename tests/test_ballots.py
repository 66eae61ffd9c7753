"""Votes and chairs as papers tell them, by all rules."""

import itertools
import unittest

from chairvote.ballots import Ballots
from chairvote.benches import Bench
from chairvote.lists import end_of, roll_of
from chairvote.rules import Rules
from tests.halldeeds import Drawer, drawn_halls
from tests.making import GREAT_TERM, whole_state

ROLL = (7, 0)
END = (2, 5)


def ballots_of(text="once best own most"):
    return Ballots(Rules(text))


def asked(text="once best own most", hand=0, term=3, end=END):
    """One hand has asked in a term, with that end."""
    ballots = ballots_of(text)
    ballots.cast(hand, term, hand, end)
    return ballots


class NewTest(unittest.TestCase):
    def test_nothing_is_known_at_first(self):
        ballots = ballots_of()
        for hand in (0, 1, 59):
            self.assertEqual(ballots.term_of(hand), 0)
            self.assertEqual(ballots.votes_of(hand, 1), 0)
            self.assertIsNone(ballots.asked_with(hand, 1))
        self.assertEqual(ballots.chairs(), [])
        self.assertIsNone(ballots.chair_of(1))
        self.assertFalse(ballots.stands(1))
        self.assertFalse(ballots.stands(0))


class OwnVoteTest(unittest.TestCase):
    def test_it_is_kept_what_was_asked_with(self):
        for term in (1, 3, GREAT_TERM):
            ballots = asked(hand=2, term=term)
            self.assertEqual(ballots.term_of(2), term)
            self.assertEqual(ballots.votes_of(2, term), 4)
            self.assertEqual(ballots.asked_with(2, term), END)
            self.assertEqual((ballots.term_of(1), ballots.votes_of(1, term)), (0, 0))
            self.assertIsNone(ballots.asked_with(2, term - 1))

    def test_the_term_is_greater_than_the_hands(self):
        for text in ("once best own most", "free any old half"):
            ballots = asked(text)
            for term, may in ((1, False), (2, False), (3, False), (4, True), (GREAT_TERM, True)):
                self.assertIs(ballots.may_vote(0, term, 0, END), may)
            ballots.reach(1, 6)
            for term, may in ((5, False), (6, False), (7, True)):
                self.assertIs(ballots.may_vote(1, term, 1, END), may)

    def test_terms_are_from_one_on(self):
        for text in ("once best own most", "free any old half"):
            ballots = ballots_of(text)
            for term, may in ((-1, False), (0, False), (1, True)):
                self.assertIs(ballots.may_vote(0, term, 0, (0, 0)), may)


class VoteTest(unittest.TestCase):
    def test_whom_has_asked_in_the_term(self):
        for text in ("once best own most", "free any old half"):
            ballots = asked(text)
            self.assertTrue(ballots.may_vote(1, 3, 0, (0, 0)))
            self.assertFalse(ballots.may_vote(1, 2, 0, (0, 0)))
            self.assertFalse(ballots.may_vote(1, 4, 0, (0, 0)))
            self.assertFalse(ballots.may_vote(1, 3, 2, (0, 0)))

    def test_by_best_the_end_asked_with_is_no_less(self):
        for end, may in (((2, 5), True), ((2, 4), True), ((1, 9), True), ((2, 6), False), ((3, 1), False)):
            self.assertIs(asked("once best own most").may_vote(1, 3, 0, end), may)
            self.assertIs(asked("free best old half").may_vote(1, 3, 0, end), may)
            self.assertIs(asked("once any own most").may_vote(1, 3, 0, end), True)

    def test_the_term_is_no_less_than_the_hands(self):
        for text in ("once best own most", "free any old half"):
            for own, may in ((0, True), (2, True), (3, True), (4, False), (GREAT_TERM, False)):
                ballots = asked(text)
                ballots.reach(1, own)
                self.assertIs(ballots.may_vote(1, 3, 0, (0, 0)), may)

    def test_by_once_there_is_no_other_vote_in_the_term(self):
        for text, may in (("once best own most", False), ("free best own most", True)):
            ballots = asked(text)
            ballots.cast(2, 3, 2, END)
            self.assertIs(ballots.may_vote(2, 3, 0, END), may)
            ballots.cast(1, 3, 2, END)
            self.assertIs(ballots.may_vote(1, 3, 0, END), may)
            self.assertIs(ballots.may_vote(1, 3, 2, END), False)

    def test_by_free_none_is_voted_for_twice(self):
        ballots = asked("free any old half")
        ballots.cast(2, 3, 2, END)
        ballots.cast(1, 3, 2, END)
        ballots.cast(1, 3, 0, END)
        self.assertEqual(ballots.votes_of(1, 3), 5)
        for whom in (0, 2):
            self.assertFalse(ballots.may_vote(1, 3, whom, END))

    def test_votes_of_other_terms_do_not_count(self):
        ballots = asked()
        ballots.cast(1, 3, 0, END)
        ballots.cast(0, 4, 0, END)
        self.assertTrue(ballots.may_vote(1, 4, 0, END))
        ballots.cast(1, 4, 0, END)
        self.assertEqual([ballots.votes_of(1, term) for term in (2, 3, 4, 5)], [0, 1, 1, 0])
        self.assertEqual(ballots.term_of(1), 4)

    def test_a_vote_for_another_asks_for_nothing(self):
        ballots = asked()
        ballots.cast(1, 3, 0, (1, 1))
        self.assertEqual(ballots.asked_with(0, 3), END)
        self.assertIsNone(ballots.asked_with(1, 3))


class ChairTest(unittest.TestCase):
    def voted(self, text="once best own most", voters=(1,)):
        ballots = asked(text)
        for voter in voters:
            ballots.cast(voter, 3, 0, (0, 0))
        return ballots

    def test_by_the_votes_of_those_who_win(self):
        ballots = self.voted()
        self.assertTrue(ballots.may_chair(0, 3, 3, END, ROLL))
        self.assertFalse(ballots.may_chair(0, 3, 1, END, ROLL))
        self.assertFalse(ballots.may_chair(0, 3, 0, END, ROLL))
        self.assertTrue(ballots.may_chair(0, 3, 1, END, (1, 0)))
        self.assertTrue(ballots.may_chair(0, 3, 2, END, (2, 0)))
        self.assertFalse(ballots.may_chair(0, 3, 3, END, (3, 4)))

    def test_by_half_half_of_them_win(self):
        for text, may in (("once best own most", False), ("once best own half", True)):
            self.assertIs(self.voted(text).may_chair(0, 3, 3, END, (15, 0)), may)
            self.assertIs(self.voted(text).may_chair(0, 3, 3, END, (3, 6)), may)
            self.assertIs(self.voted(text).may_chair(0, 3, 3, END, (31, 0)), False)

    def test_each_of_the_voters_voted_for_it_in_the_term(self):
        for text in ("once best own most", "free any old half"):
            ballots = self.voted(text)
            for voters in (5, 7, 6, 11, 3 | 1 << 59):
                self.assertFalse(ballots.may_chair(0, 3, voters, END, ROLL))
            ballots.cast(2, 3, 2, END)
            self.assertFalse(ballots.may_chair(0, 3, 7, END, ROLL))
            ballots.cast(0, 4, 0, END)
            self.assertFalse(ballots.may_chair(0, 4, 3, END, ROLL))

    def test_by_free_a_voter_may_have_voted_for_others_too(self):
        ballots = self.voted("free best own most")
        ballots.cast(2, 3, 2, END)
        ballots.cast(1, 3, 2, END)
        self.assertTrue(ballots.may_chair(0, 3, 3, END, ROLL))
        self.assertTrue(ballots.may_chair(2, 3, 6, END, ROLL))

    def test_its_row_has_the_end_that_it_asked_with(self):
        for end in ((2, 4), (2, 6), (3, 5), (0, 0)):
            for text in ("once best own most", "free any old half"):
                self.assertFalse(self.voted(text).may_chair(0, 3, 3, end, ROLL))

    def test_its_term_is_that_term(self):
        for text in ("once best own most", "free any old half"):
            ballots = self.voted(text)
            for term in (2, 4):
                self.assertFalse(ballots.may_chair(0, term, 3, END, ROLL))
            ballots.reach(0, 4)
            self.assertFalse(ballots.may_chair(0, 3, 3, END, ROLL))

    def test_it_has_asked(self):
        ballots = self.voted()
        ballots.reach(2, 3)
        for voters in (0, 3, 4, 7):
            self.assertFalse(ballots.may_chair(2, 3, voters, END, (1, 0)))

    def test_it_is_not_the_chair_already(self):
        ballots = self.voted()
        ballots.take_seat(0, 3)
        self.assertFalse(ballots.may_chair(0, 3, 3, END, ROLL))

    def test_another_chair_of_the_term_is_not_in_its_way(self):
        ballots = self.voted("free best own most")
        ballots.take_seat(0, 3)
        ballots.cast(2, 3, 2, END)
        ballots.cast(1, 3, 2, END)
        self.assertTrue(ballots.may_chair(2, 3, 6, END, ROLL))
        self.assertEqual(ballots.chair_of(3), 0)

    def test_chairs_are_told_in_rising_order(self):
        ballots = ballots_of()
        for term, hand in ((7, 1), (2, 4), (GREAT_TERM, 0), (3, 1)):
            ballots.take_seat(hand, term)
        self.assertEqual(ballots.chairs(), [(2, 4), (3, 1), (7, 1), (GREAT_TERM, 0)])
        ballots.chairs().clear()
        self.assertEqual([ballots.chair_of(term) for term in (2, 3, 7, 8)], [4, 1, 1, None])
        self.assertEqual(len(ballots.chairs()), 4)

    def test_a_chair_stands_while_its_hand_is_at_the_term(self):
        ballots = self.voted()
        self.assertFalse(ballots.stands(3))
        ballots.take_seat(0, 3)
        self.assertTrue(ballots.stands(3))
        ballots.reach(1, 9)
        self.assertTrue(ballots.stands(3))
        ballots.reach(0, 4)
        self.assertFalse(ballots.stands(3))
        self.assertFalse(ballots.stands(4))


class HallTest(unittest.TestCase):
    def test_votes_and_chairs_of_drawn_halls_may_all_be(self):
        for hall, number, S, chance in drawn_halls(18):
            drawer = Drawer(hall, number, chance)
            for deed in range(250):
                drawer.draw()
            self.assert_all_may_be(hall.papers(), S)

    def assert_all_may_be(self, papers, S):
        ballots, bench = ballots_of(), Bench(S)
        for paper in papers:
            row = bench.row_of(paper[1])
            if paper[0] == "vote":
                self.assertTrue(ballots.may_vote(*paper[1:], end_of(row)))
                ballots.cast(*paper[1:], end_of(row))
            elif paper[0] == "chair":
                self.assertTrue(ballots.may_chair(*paper[1:], end_of(row), roll_of(row, (S, 0))))
                ballots.take_seat(*paper[1:3])
            elif paper[0] == "told":
                ballots.reach(*paper[1:3])
            else:
                self.assertTrue(ballots.stands(paper[1]))
            bench.take(paper)


class ApartTest(unittest.TestCase):
    def test_what_is_asked_changes_nothing(self):
        for words in itertools.product(("once", "free"), ("best", "any"), ("most", "half")):
            ballots = asked(" ".join((words[0], words[1], "own", words[2])))
            before = whole_state(ballots)
            for hand, whom in ((0, 0), (1, 0), (1, 1), (0, 1)):
                ballots.may_vote(hand, 4, whom, END)
                ballots.may_chair(hand, 3, 1, END, (1, 0))
            ballots.votes_of(9, 9)
            self.assertEqual(whole_state(ballots), before)

    def test_twins_are_alike_and_apart(self):
        for text in ("once best own most", "free any old half"):
            ballots = asked(text)
            ballots.cast(1, 3, 0, END)
            ballots.take_seat(0, 3)
            before = whole_state(ballots)
            twin = ballots.twin()
            self.assertEqual(whole_state(twin), before)
            twin.cast(2, 4, 2, (9, 9))
            twin.cast(1, 5, 0, END)
            twin.take_seat(2, 4)
            twin.reach(0, 8)
            self.assertEqual(whole_state(ballots), before)
            ballots.cast(2, 6, 2, END)
            self.assertEqual((twin.term_of(2), twin.chairs()), (4, [(3, 0), (4, 2)]))


if __name__ == "__main__":
    unittest.main()
