"""A hand: what it is made of, its papers, its bell, terms, pleases and votes."""

import unittest

from chairvote.books import Book, read_book, written
from chairvote.errors import HallError, NotMine
from chairvote.hands import Hand
from chairvote.rows import Row
from chairvote.seats import Sitter
from chairvote.shelves import Shelf
from tests.making import (
    EMPTY, GREAT, GREAT_TERM, START, ask, asker_of, asks, book_of, book_state, chair_of, hand_of, row_state,
    told_state, whole_state,
)

KEPT = ((("a", 3), ("b", -1)), ((0, 1, 3), (4, -2, 0)))


def letters_of(term, me=0, who=1):
    """One letter of each form, of this term."""
    return [
        ("please", who, me, term, (term, 9)),
        ("vote", who, me, term),
        ("late", who, me, term),
        ("tell", who, me, term, 3, 0, 0, (), 0),
        ("whole", who, me, term, 3, 0, 0, (7, 0), EMPTY),
        ("told", who, me, term, 1, True, 0),
    ]


def hands_in_all_seats(**parts):
    """A hand that sits in term 5, one that asks in it, one that chairs in it."""
    return [hand_of(term=5, **parts), asker_of(term=4, **parts), chair_of(term=4, **parts)]


class MadeTest(unittest.TestCase):
    def test_a_hand_is_made_of_a_book(self):
        for me, term, vote, base, count in ((0, 0, None, 0, 0), (3, 9, 1, 12, 2), (59, GREAT_TERM, 59, GREAT, 4)):
            with self.subTest(me=me):
                entries = [(2, START), (2, ask(1)), (2, ("roll", 7, 3)), (3, START)][:count]
                hand = Hand(me, book_of(term, vote, base, 1, (7, 0), entries, KEPT))
                self.assertEqual((hand.me, hand.term, hand.vote), (me, term, vote))
                self.assertEqual(row_state(hand.row), (base, 1, (7, 0), entries))
                self.assertEqual((hand.settled, hand.done), (base, base))
                self.assertEqual(hand.shelf.told(), KEPT)
                self.assertIsNone(hand.chair)
                self.assertEqual(hand.seat.word(), "sits")
                self.assertIsInstance(hand.row, Row)
                self.assertIsInstance(hand.shelf, Shelf)
                self.assertIsInstance(hand.seat, Sitter)

    def test_its_book_is_like_the_one_that_it_is_made_of(self):
        book = book_of(9, 1, 12, 1, (7, 0), asks(2, 1, 3), KEPT)
        hand = Hand(0, book)
        self.assertIsInstance(hand.book(), Book)
        self.assertEqual(book_state(hand.book()), book_state(book))

    def test_its_book_is_a_new_one_each_time(self):
        hand = Hand(0, book_of(9, 1, 12, 1, (7, 0), asks(2, 1, 3), KEPT))
        before = whole_state(hand)
        one = hand.book()
        two = hand.book()
        one.row.put((9, START))
        self.assertEqual(whole_state(hand), before)
        self.assertEqual(row_state(two.row), row_state(hand.row))
        hand.take(("tell", 1, 0, 12, 1, 15, 2, ((10, START),), 0))
        self.assertEqual(two.term, 9)
        self.assertEqual(two.row.entries(), asks(2, 1, 3))

    def test_the_book_handed_in_is_kept_as_a_copy(self):
        book = book_of(9, 1, 12, 1, (7, 0), asks(2, 1, 3), KEPT)
        text = written(book)
        hand = Hand(0, book)
        twin = Hand(1, book)
        before = whole_state(twin)
        hand.take(("tell", 1, 0, 12, 1, 13, 2, ((10, START),), 14))
        hand.fold()
        self.assertEqual(written(book), text)
        self.assertEqual(whole_state(twin), before)
        book.row.put((9, START))
        self.assertEqual(whole_state(twin), before)

    def test_it_goes_on_from_a_book_written_and_read(self):
        hand, papers = hand_of(2, term=4)
        hand.take(("please", 1, 2, 6, (0, 0)))
        hand.take(("tell", 1, 2, 6, 1, 0, 0, ((6, START), (6, ask(1)), (6, ask(2))), 2))
        hand.fold()
        again = Hand(2, read_book(written(hand.book())))
        self.assertEqual((again.term, again.vote, again.settled, again.done), (6, 1, 2, 2))
        self.assertEqual(row_state(again.row), row_state(hand.row))
        self.assertEqual(again.shelf.told(), ((("a", 1),), ((0, 1, 1),)))
        self.assertIsNone(again.chair)


class PapersTest(unittest.TestCase):
    def deeds(self, hand):
        yield hand.ring()
        yield hand.take(("vote", 1, 0, hand.term))
        yield hand.ask(1, 1, ("add", "a", 2))
        yield hand.look(2, "a")
        yield hand.take(("told", 1, 0, hand.term, 2, True, 2))
        yield hand.take(("told", 2, 0, hand.term, 3, True, 1))
        yield hand.change(3)
        yield hand.take(("please", 1, 0, hand.term + 1, (9, 9)))
        yield hand.take(("tell", 2, 0, hand.term + 1, 1, 0, 0, ((3, START),), 0))

    def test_papers_are_told_in_the_order_in_which_things_happen(self):
        hand, papers = hand_of(0)
        for letters in self.deeds(hand):
            pass
        self.assertEqual(papers, [
            ("vote", 0, 1, 0),
            ("chair", 0, 1, 3), ("write", 1, 1, START), ("beat", 1, 1),
            ("write", 1, 2, ("ask", 1, 1, ("add", "a", 2))), ("beat", 1, 2),
            ("beat", 1, 3), ("look", 1, 3, 2, "a", 1),
            ("settle", 1, 2, 3), ("answer", 1, 1, 1, 2, 2),
            ("seen", 1, 3, 2, "a", 2, 2, 5),
            ("write", 1, 3, ("roll", 7, 3)), ("beat", 1, 4),
            ("vote", 0, 2, 1),
            ("told", 0, 3, 1, 1),
        ])
        for paper in papers:
            self.assertIs(paper.__class__, tuple)

    def test_without_a_function_none_are_told_and_all_else_is_the_same(self):
        hand, papers = hand_of(0)
        for silent in (Hand(0, book_of()), Hand(0, book_of(), None), Hand(0, book_of(), note=None)):
            hand, papers = hand_of(0)
            for told, untold in zip(list(self.deeds(hand)), list(self.deeds(silent)), strict=True):
                self.assertEqual(told, untold)
            self.assertEqual(told_state(hand), told_state(silent))

    def test_what_is_refused_tells_no_paper(self):
        for hand, papers in hands_in_all_seats():
            with self.assertRaises(NotMine):
                hand.take(("vote", 1, 3, 9))
            with self.assertRaises(HallError):
                hand.change(0)
            self.assertEqual(papers, [])

    def test_what_comes_to_nothing_tells_no_paper(self):
        for hand, papers in hands_in_all_seats():
            hand.take(("late", 1, 0, 5))
            hand.take(("told", 1, 0, 4, 1, True, 0))
            self.assertEqual(papers, [])


class BellTest(unittest.TestCase):
    def test_a_hand_that_sits(self):
        for term, base in ((0, 0), (6, 4), (GREAT_TERM, GREAT)):
            hand, papers = hand_of(1, term=term, vote=2, base=base, base_term=3, entries=asks(5, 1, 2))
            hand.take(("tell", 2, 1, term, 1, base, 3, (), 0))
            self.assertEqual(hand.chair, 2)
            papers.clear()
            row = row_state(hand.row)
            end = (5, base + 2)
            self.assertEqual(hand.ring(), [("please", 1, 0, term + 1, end), ("please", 1, 2, term + 1, end)])
            self.assertEqual((hand.term, hand.vote, hand.chair, hand.seat.word()), (term + 1, 1, None, "asks"))
            self.assertEqual(papers, [("vote", 1, term + 1, 1)])
            self.assertEqual(row_state(hand.row), row)
            self.assertEqual((hand.settled, hand.done), (base, base))

    def test_the_end_of_a_row_without_entries(self):
        hand, papers = hand_of(0, base=7, base_term=4)
        self.assertEqual(hand.ring()[0], ("please", 0, 1, 1, (4, 7)))

    def test_a_hand_that_asks_already_loses_its_voters(self):
        hand, papers = asker_of(0, roll=(31, 0))
        hand.take(("vote", 1, 0, 1))
        self.assertEqual([letter[:4] for letter in hand.ring()], [("please", 0, h, 2) for h in (1, 2, 3, 4)])
        self.assertEqual((hand.term, hand.vote, hand.seat.word()), (2, 0, "asks"))
        hand.take(("vote", 2, 0, 2))
        self.assertEqual(hand.seat.word(), "asks")
        hand.take(("vote", 1, 0, 2))
        self.assertEqual(hand.seat.word(), "chairs")
        self.assertIn(("chair", 0, 2, 7), papers)

    def test_pleases_go_in_rising_order_to_each_other_member(self):
        for me, roll, others in (
            (3, ((1 << 59) | (1 << 17) | 8 | 1, 0), [0, 17, 59]), (4, (6, 0), [1, 2]), (1, (3, 12), [0, 2, 3]),
            (0, (6, 7), [1, 2]), (2, (5, 5), [0]), (59, (1 << 58, 1), [0, 58]),
        ):
            hand, papers = hand_of(me, roll=roll)
            self.assertEqual(hand.ring(), [("please", me, other, 1, (0, 0)) for other in others])
            self.assertEqual(hand.seat.word(), "asks")

    def test_the_roll_is_that_of_the_row_settled_or_not(self):
        hand, papers = hand_of(0, roll=(7, 0), entries=[(1, START), (1, ("roll", 7, 24))])
        self.assertEqual([letter[2] for letter in hand.ring()], [1, 2, 3, 4])

    def test_one_hand_alone_takes_the_chair_at_once(self):
        hand, papers = hand_of(2, term=3, roll=(4, 0), entries=[(1, START), (2, ask(8, ("add", "b", 5), 6))])
        self.assertEqual(hand.ring(), [])
        self.assertEqual(papers, [
            ("vote", 2, 4, 2), ("chair", 2, 4, 4), ("write", 4, 3, START), ("beat", 4, 1), ("settle", 4, 3, 4),
            ("answer", 4, 6, 8, 2, 5),
        ])
        self.assertEqual((hand.term, hand.vote, hand.chair, hand.seat.word()), (4, 2, 2, "chairs"))
        self.assertEqual((hand.settled, hand.done, hand.shelf.value_of("b")), (3, 3, 5))

    def test_a_double_roll_of_one_hand(self):
        hand, papers = hand_of(0, roll=(1, 0), entries=[(1, ("roll", 1, 1))])
        self.assertEqual(hand.ring(), [])
        self.assertEqual(papers, [
            ("vote", 0, 1, 0), ("chair", 0, 1, 1), ("write", 1, 2, START), ("beat", 1, 1), ("settle", 1, 2, 1),
            ("write", 1, 3, ("roll", 1, 0)), ("beat", 1, 2), ("settle", 1, 3, 1),
        ])
        self.assertEqual(hand.seat.word(), "chairs")

    def test_a_hand_of_two_does_not_win_alone(self):
        hand, papers = hand_of(0, roll=(3, 0))
        self.assertEqual(hand.ring(), [("please", 0, 1, 1, (0, 0))])
        self.assertEqual(hand.seat.word(), "asks")

    def test_a_hand_that_chairs_tells_on_to_all(self):
        hand, papers = chair_of(0, term=4)
        before = told_state(hand)
        for beat in (2, 3, 4):
            papers.clear()
            entries = ((5, START),)
            self.assertEqual(hand.ring(), [("tell", 0, h, 5, beat, 0, 0, entries, 0) for h in (1, 2)])
            self.assertEqual(papers, [("beat", 5, beat)])
            self.assertEqual(told_state(hand), before)


class TermsTest(unittest.TestCase):
    def test_a_letter_to_another_hand_is_refused(self):
        for term in (3, 5, 9):
            for hand, papers in hands_in_all_seats():
                for to in (1, 2, 59):
                    for letter in letters_of(term, to, 2 if to != 2 else 1):
                        before = whole_state(hand)
                        with self.assertRaises(NotMine) as caught:
                            hand.take(letter)
                        self.assertEqual(caught.exception.at, to)
                        self.assertEqual(whole_state(hand), before)
                        self.assertEqual(papers, [])

    def test_a_letter_of_a_lesser_term(self):
        for less in (1, 5):
            for hand, papers in hands_in_all_seats():
                for letter in letters_of(5 - less, 0, 2):
                    before = whole_state(hand)
                    is_answered = letter[0] in ("please", "tell", "whole")
                    self.assertEqual(hand.take(letter), [("late", 0, 2, 5)] if is_answered else [])
                    self.assertEqual(whole_state(hand), before)
                    self.assertEqual(papers, [])

    def test_late_bears_a_great_term_and_goes_to_strangers_too(self):
        hand, papers = hand_of(3, term=GREAT_TERM)
        self.assertEqual(hand.take(("please", 44, 3, GREAT_TERM - 1, (9, 9))), [("late", 3, 44, GREAT_TERM)])

    def test_a_letter_of_a_greater_term(self):
        for term in (6, GREAT_TERM):
            for k, word in enumerate(("please", "vote", "late", "tell", "whole", "told")):
                for hand, papers in hands_in_all_seats(vote=2):
                    letter = letters_of(term)[k]
                    row = row_state(hand.row)
                    letters = hand.take(letter)
                    self.assertEqual((hand.term, hand.seat.word()), (term, "sits"))
                    self.assertEqual(hand.vote, 1 if word == "please" else None)
                    self.assertEqual(hand.chair, 1 if word in ("tell", "whole") else None)
                    self.assertEqual(row_state(hand.row), row)
                    self.assertEqual((hand.settled, hand.done), (0, 0))
                    answer = {
                        "please": [("vote", 0, 1, term)], "tell": [("told", 0, 1, term, 3, True, 0)],
                        "whole": [("told", 0, 1, term, 3, True, 0)],
                    }
                    self.assertEqual(letters, answer.get(word, []))
                    paper = {
                        "please": [("vote", 0, term, 1)], "tell": [("told", 0, term, 0, 3)],
                        "whole": [("told", 0, term, 0, 3)],
                    }
                    self.assertEqual(papers, paper.get(word, []))

    def test_a_greater_term_counts_also_where_the_letter_comes_to_nothing(self):
        hand, papers = hand_of(0, term=5, vote=0, entries=asks(4, 1, 3))
        self.assertEqual(hand.take(("please", 1, 0, 8, (4, 2))), [])
        self.assertEqual((hand.term, hand.vote, hand.chair, papers), (8, None, None, []))

    def test_the_chair_it_knew_is_forgotten(self):
        hand, papers = hand_of(0, term=5)
        hand.take(("tell", 2, 0, 5, 1, 0, 0, (), 0))
        self.assertEqual(hand.chair, 2)
        hand.take(("late", 1, 0, 6))
        self.assertIsNone(hand.chair)

    def test_a_late_of_its_own_term_comes_to_nothing(self):
        for hand, papers in hands_in_all_seats():
            before = whole_state(hand)
            self.assertEqual(hand.take(("late", 1, 0, 5)), [])
            self.assertEqual(whole_state(hand), before)

    def test_each_list_given_is_a_new_one(self):
        hand, papers = hand_of(0, term=5)
        one = hand.take(("please", 1, 0, 4, (0, 0)))
        one.clear()
        self.assertEqual(hand.take(("please", 1, 0, 4, (0, 0))), [("late", 0, 1, 5)])
        hand.take(("late", 1, 0, 5)).append(3)
        self.assertEqual(hand.take(("late", 1, 0, 5)), [])


class PleaseTest(unittest.TestCase):
    def test_ends_are_compared_as_tuples(self):
        for base in (0, 4, GREAT):
            own = (5, base + 3)
            for end, is_given in (
                (own, True), ((5, base + 4), True), ((5, base + 2), False), ((6, 0), True), ((6, base + 9), True),
                ((4, base + 3), False), ((4, base + 10 ** 50), False), ((0, 0), False), ((GREAT_TERM, 0), True),
                ((5, 0), False),
            ):
                with self.subTest(base=base, end=end):
                    hand, papers = hand_of(0, term=7, base=base, base_term=2, entries=asks(5, 1, 3))
                    row = row_state(hand.row)
                    self.assertEqual(hand.take(("please", 1, 0, 7, end)), [("vote", 0, 1, 7)] if is_given else [])
                    self.assertEqual(hand.vote, 1 if is_given else None)
                    self.assertEqual(papers, [("vote", 0, 7, 1)] if is_given else [])
                    self.assertEqual((hand.term, hand.chair, hand.seat.word()), (7, None, "sits"))
                    self.assertEqual(row_state(hand.row), row)

    def test_the_end_of_a_row_without_entries_is_its_base(self):
        for end, is_given in (((4, 8), True), ((4, 7), False), ((3, 9), False), ((5, 0), True)):
            hand, papers = hand_of(0, term=7, base=8, base_term=4)
            self.assertEqual(hand.take(("please", 1, 0, 7, end)), [("vote", 0, 1, 7)] if is_given else [])

    def test_one_vote_a_term(self):
        hand, papers = hand_of(0, term=7)
        self.assertEqual(hand.take(("please", 1, 0, 7, (0, 0))), [("vote", 0, 1, 7)])
        before = whole_state(hand)
        for asker in (2, 3, 59):
            self.assertEqual(hand.take(("please", asker, 0, 7, (9, 9))), [])
        self.assertEqual(whole_state(hand), before)
        self.assertEqual(papers, [("vote", 0, 7, 1)])

    def test_the_same_asker_is_answered_again_without_a_paper(self):
        hand, papers = hand_of(0, term=7, entries=asks(3, 1, 2))
        hand.take(("please", 1, 0, 7, (3, 2)))
        before = whole_state(hand)
        for end in ((3, 2), (9, 9), (0, 0)):
            self.assertEqual(hand.take(("please", 1, 0, 7, end)), [("vote", 0, 1, 7)])
        self.assertEqual(whole_state(hand), before)
        self.assertEqual(papers, [("vote", 0, 7, 1)])

    def test_one_vote_a_term_through_a_book_written_and_read(self):
        for vote in (0, 1, 2):
            hand, papers = hand_of(0, term=7, vote=None)
            if vote == 0:
                hand = asker_of(0, term=6)[0]
            else:
                hand.take(("please", vote, 0, 7, (0, 0)))
            again = Hand(0, read_book(written(hand.book())), papers.append)
            papers.clear()
            for asker in (1, 2):
                expected = [("vote", 0, asker, 7)] if asker == vote else []
                self.assertEqual(again.take(("please", asker, 0, 7, (9, 9))), expected)
            self.assertEqual(papers, [])
            self.assertEqual(again.vote, vote)

    def test_a_vote_for_hand_0_is_a_vote(self):
        hand, papers = hand_of(2, term=7, vote=0)
        self.assertEqual(hand.take(("please", 1, 2, 7, (9, 9))), [])
        self.assertEqual(hand.take(("please", 0, 2, 7, (0, 0))), [("vote", 2, 0, 7)])

    def test_hands_that_ask_or_chair_have_voted_for_themselves(self):
        for hand, papers in hands_in_all_seats()[1:]:
            before = whole_state(hand)
            self.assertEqual(hand.take(("please", 1, 0, 5, (9, 9))), [])
            self.assertEqual(whole_state(hand), before)
            self.assertEqual(papers, [])

    def test_a_hand_that_takes_another_for_the_chair_still_votes(self):
        hand, papers = hand_of(0, term=7)
        hand.take(("tell", 2, 0, 7, 1, 0, 0, (), 0))
        self.assertEqual(hand.take(("please", 1, 0, 7, (0, 0))), [("vote", 0, 1, 7)])
        self.assertEqual((hand.vote, hand.chair), (1, 2))

    def test_a_new_term_is_a_new_vote(self):
        hand, papers = hand_of(0, term=7, vote=2)
        self.assertEqual(hand.take(("please", 1, 0, 8, (0, 0))), [("vote", 0, 1, 8)])
        self.assertEqual(hand.take(("please", 2, 0, 9, (0, 0))), [("vote", 0, 2, 9)])
        self.assertEqual(papers, [("vote", 0, 8, 1), ("vote", 0, 9, 2)])

    def test_askers_that_are_no_members_are_voted_for_too(self):
        hand, papers = hand_of(0, roll=(7, 0))
        self.assertEqual(hand.take(("please", 44, 0, 1, (0, 0))), [("vote", 0, 44, 1)])
        hand, papers = hand_of(9, roll=(7, 0))
        self.assertEqual(hand.take(("please", 1, 9, 1, (0, 0))), [("vote", 9, 1, 1)])


class VoteTest(unittest.TestCase):
    def assert_votes(self, hand, papers, votes, voters):
        """The last of the votes, and none ahead, makes the hand the chair, by these voters."""
        for k, voter in enumerate(votes):
            letters = hand.take(("vote", voter, hand.me, hand.term))
            if k < len(votes) - 1:
                self.assertEqual((letters, papers, hand.seat.word()), ([], [], "asks"))
        self.assertEqual(hand.seat.word(), "chairs")
        self.assertEqual(papers[0], ("chair", hand.me, hand.term, voters))
        self.assertEqual(hand.chair, hand.me)

    def test_more_than_half_of_the_roll(self):
        for count, votes, voters in (
            (2, [1], 3), (3, [2], 5), (4, [3, 1], 11), (5, [1, 2], 7), (5, [4, 3], 25), (6, [1, 2, 5], 39),
            (60, list(range(1, 31)), (1 << 31) - 1),
        ):
            hand, papers = asker_of(0, roll=((1 << count) - 1, 0))
            self.assert_votes(hand, papers, votes, voters)

    def test_the_same_voter_counts_once(self):
        hand, papers = asker_of(0, roll=(31, 0))
        self.assert_votes(hand, papers, [1, 1, 1, 2], 7)

    def test_voters_that_are_no_members_are_voters_but_count_for_nothing(self):
        hand, papers = asker_of(0, roll=(7, 0))
        self.assert_votes(hand, papers, [3, 9, 44, 1], (1 << 44) | 512 | 8 | 3)

    def test_a_hand_that_is_no_member_counts_for_nothing(self):
        hand, papers = asker_of(5, roll=(6, 0))
        self.assert_votes(hand, papers, [1, 2], 32 + 6)

    def test_both_sets_of_a_double_roll(self):
        hand, papers = asker_of(0, roll=(7, 56))
        self.assert_votes(hand, papers, [1, 2, 3, 4], 31)
        hand, papers = asker_of(0, roll=(7, 56))
        self.assert_votes(hand, papers, [3, 4, 5, 1], 59)
        hand, papers = asker_of(0, roll=(7, 0), entries=[(1, ("roll", 7, 8))])
        self.assert_votes(hand, papers, [1, 2, 3], 15)

    def test_a_hand_that_does_not_ask(self):
        for hand, papers in (hand_of(0, term=5), chair_of(0, term=4)):
            for voter in (1, 2):
                before = whole_state(hand)
                self.assertEqual(hand.take(("vote", voter, 0, 5)), [])
                self.assertEqual(whole_state(hand), before)
                self.assertEqual(papers, [])

    def test_votes_of_a_lesser_term_do_not_count(self):
        hand, papers = asker_of(0, term=4)
        self.assertEqual(hand.take(("vote", 1, 0, 4)), [])
        self.assertEqual(hand.seat.word(), "asks")

    def test_a_hand_that_asked_and_sits_again_takes_no_votes(self):
        hand, papers = asker_of(0, term=4)
        hand.take(("tell", 2, 0, 5, 1, 0, 0, (), 0))
        papers.clear()
        self.assertEqual(hand.take(("vote", 1, 0, 5)), [])
        self.assertEqual((hand.seat.word(), hand.chair, hand.vote, papers), ("sits", 2, 0, []))

    def test_a_hand_that_asked_does_not_ask_after_a_fall(self):
        hand, papers = asker_of(0, term=4)
        again = Hand(0, read_book(written(hand.book())))
        self.assertEqual((again.seat.word(), again.vote, again.term), ("sits", 0, 5))
        self.assertEqual(again.take(("vote", 1, 0, 5)), [])
        self.assertEqual(again.seat.word(), "sits")

    def test_great_terms(self):
        hand, papers = asker_of(0, term=GREAT_TERM)
        self.assert_votes(hand, papers, [1], 3)
        self.assertEqual(hand.term, GREAT_TERM + 1)


if __name__ == "__main__":
    unittest.main()
