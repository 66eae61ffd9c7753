"""A hand that is handed asks, looks and changes, and folds its row."""

import unittest

from chairvote.books import read_book, written
from chairvote.errors import Busy, NoChair, NoRoll
from chairvote.hands import Hand
from tests.making import (
    EMPTY, GREAT, GREAT_TERM, START, ask, asker_of, asks, chair_of, hand_of, row_state, told, whole_state,
)

ADD = ("add", "a", 1)


def follower_of(chair, **parts):
    hand, papers = hand_of(0, term=5, **parts)
    hand.take(("tell", chair, 0, 5, 1, 0, 0, (), 0))
    papers.clear()
    return hand, papers


class Refusals(unittest.TestCase):
    def assert_refused(self, hand, papers, deed, error, at):
        before = whole_state(hand)
        with self.assertRaises(error) as caught:
            deed(hand)
        self.assertEqual(caught.exception.at, at)
        self.assertEqual(whole_state(hand), before)
        self.assertEqual(papers, [])

    def assert_no_chair(self, deed):
        for (hand, papers), chair in (
            (hand_of(0, term=5), None), (asker_of(0, term=4), None), (follower_of(2), 2), (follower_of(59), 59),
            (hand_of(0, term=5, vote=1), None),
        ):
            self.assert_refused(hand, papers, deed, NoChair, chair)
        hand, papers = chair_of(0, term=4)
        hand.take(("late", 1, 0, 9))
        self.assert_refused(hand, papers, deed, NoChair, None)
        hand.take(("tell", 1, 0, 9, 1, 0, 0, (), 0))
        papers.clear()
        self.assert_refused(hand, papers, deed, NoChair, 1)
        hand = Hand(0, read_book(written(chair_of(0, term=4)[0].book())))
        self.assert_refused(hand, [], deed, NoChair, None)


class AskTest(Refusals):
    def test_at_a_chair(self):
        for base in (0, 4, GREAT):
            hand, papers = chair_of(0, term=4, base=base, base_term=2, entries=asks(3, 1, 1))
            letters = hand.ask(-7, 10 ** 50, ("swap", "abcdefgh", -1, 0))
            what = ("ask", -7, 10 ** 50, ("swap", "abcdefgh", -1, 0))
            entries = ((5, START), (5, what))
            self.assertEqual(letters, [("tell", 0, h, 5, 2, base + 1, 3, entries, base) for h in (1, 2)])
            self.assertEqual(papers, [("write", 5, base + 3, what), ("beat", 5, 2)])
            self.assertEqual(hand.row.entries(), asks(3, 1, 1) + [(5, START), (5, what)])
            self.assertEqual((hand.settled, hand.done), (base, base))

    def test_the_same_ask_is_put_again(self):
        hand, papers = chair_of(0)
        for again in range(2):
            hand.ask(1, 1, ADD)
        self.assertEqual(hand.row.entries(), [(1, START), (1, ask(1, who=1)), (1, ask(1, who=1))])

    def test_at_another_hand_it_is_refused(self):
        self.assert_no_chair(lambda hand: hand.ask(1, 1, ADD))


class LookTest(Refusals):
    def test_at_a_chair_whose_start_is_not_settled(self):
        hand, papers = chair_of(0, term=4, entries=asks(3, 1, 2))
        letters = hand.look(-3, "a")
        self.assertEqual(letters, [("tell", 0, h, 5, 2, 2, 3, ((5, START),), 0) for h in (1, 2)])
        self.assertEqual(papers, [("beat", 5, 2), ("look", 5, 2, -3, "a", 3)])
        papers.clear()
        told(hand, 1, 2, 2)
        self.assertEqual(papers, [])
        told(hand, 1, 1, 3)
        self.assertEqual(papers, [
            ("settle", 5, 3, 3), ("answer", 5, 0, 1, 1, 1), ("answer", 5, 0, 2, 2, 2), ("seen", 5, 2, -3, "a", 3, 2, 3),
        ])

    def test_at_a_chair_that_has_settled_more(self):
        hand, papers = chair_of(0)
        hand.ask(0, 1, ("put", "b", -8))
        told(hand, 1, 2, 2)
        papers.clear()
        hand.look(4, "b")
        self.assertEqual(papers, [("beat", 1, 3), ("look", 1, 3, 4, "b", 2)])
        papers.clear()
        told(hand, 1, 2, 2)
        self.assertEqual(papers, [])
        told(hand, 2, 3, 0)
        self.assertEqual(papers, [("seen", 1, 3, 4, "b", 2, -8, 5)])

    def test_the_beat_alone_is_not_enough(self):
        hand, papers = chair_of(0)
        hand.look(4, "a")
        papers.clear()
        for who in (1, 2):
            told(hand, who, 2, 0)
        self.assertEqual(papers, [])
        told(hand, 2, 1, 1)
        self.assertEqual(papers, [("settle", 1, 1, 5), ("seen", 1, 2, 4, "a", 1, 0, 7)])

    def test_a_greater_beat_will_do_and_a_lesser_one_not(self):
        hand, papers = chair_of(0)
        told(hand, 1, 1, 1)
        hand.look(4, "a")
        hand.ring()
        papers.clear()
        told(hand, 1, 1, 1)
        self.assertEqual(papers, [])
        told(hand, 1, 3, 1)
        self.assertEqual(papers, [("seen", 1, 2, 4, "a", 1, 0, 3)])

    def test_it_is_answered_by_the_shelf_at_the_done_place(self):
        hand, papers = chair_of(0)
        told(hand, 1, 1, 1)
        hand.look(4, "a")
        hand.ask(0, 1, ("put", "a", 9))
        papers.clear()
        told(hand, 1, 3, 2)
        self.assertEqual(papers, [("settle", 1, 2, 3), ("answer", 1, 0, 1, 2, 0), ("seen", 1, 2, 4, "a", 2, 9, 3)])

    def test_all_hands_that_had_the_beat_are_told_members_or_not(self):
        hand, papers = chair_of(0, voters=(1, 2), roll=(31, 0))
        hand.look(4, "a")
        for who in (44, 1, 2):
            told(hand, who, 2 if who != 2 else 1, 1)
        papers.clear()
        told(hand, 3, 2, 0)
        self.assertEqual(papers, [("seen", 1, 2, 4, "a", 1, 0, (1 << 44) | 11)])

    def test_looks_are_answered_in_the_order_in_which_they_came(self):
        hand, papers = chair_of(0)
        hand.look(9, "a")
        hand.look(3, "b")
        hand.look(9, "a")
        self.assertEqual([paper[2] for paper in papers if paper[0] == "look"], [2, 3, 4])
        papers.clear()
        told(hand, 1, 3, 1)
        self.assertEqual(papers, [
            ("settle", 1, 1, 3), ("seen", 1, 2, 9, "a", 1, 0, 3), ("seen", 1, 3, 3, "b", 1, 0, 3),
        ])
        papers.clear()
        told(hand, 2, 4, 0)
        self.assertEqual(papers, [("seen", 1, 4, 9, "a", 1, 0, 5)])
        papers.clear()
        told(hand, 1, 4, 1)
        self.assertEqual(papers, [])

    def test_one_hand_alone_is_answered_at_once(self):
        hand, papers = hand_of(0, roll=(1, 0), base=3, kept=((("c", 6),), ()))
        hand.ring()
        papers.clear()
        self.assertEqual(hand.look(8, "c"), [])
        self.assertEqual(papers, [("beat", 1, 2), ("look", 1, 2, 8, "c", 4), ("seen", 1, 2, 8, "c", 4, 6, 1)])

    def test_both_sets_of_a_double_roll_are_asked(self):
        hand, papers = chair_of(0, roll=(3, 0))
        told(hand, 1, 1, 1)
        hand.look(8, "c")
        hand.change(12)
        papers.clear()
        for who in (1, 2):
            told(hand, who, 3, 1)
        self.assertEqual(papers, [])
        told(hand, 3, 3, 1)
        self.assertEqual(papers, [("seen", 1, 2, 8, "c", 1, 0, 15)])

    def test_it_is_answered_behind_a_roll_that_is_left(self):
        # Hand 1 had the place but not the look's beat; the second set, hand 0 alone, needs it no longer.
        hand, papers = chair_of(0, roll=(3, 0))
        told(hand, 1, 1, 1)
        hand.change(1)
        hand.look(8, "c")
        papers.clear()
        told(hand, 1, 2, 2)
        self.assertEqual(papers, [
            ("settle", 1, 2, 3), ("write", 1, 3, ("roll", 1, 0)), ("beat", 1, 4), ("settle", 1, 3, 1),
            ("seen", 1, 3, 8, "c", 3, 0, 1),
        ])

    def test_a_hand_that_chairs_no_longer_forgets_its_looks(self):
        hand, papers = chair_of(0)
        hand.look(8, "c")
        hand.take(("late", 2, 0, 4))
        hand.ring()
        hand.take(("vote", 1, 0, 5))
        papers.clear()
        told(hand, 1, 1, 2)
        self.assertEqual(papers, [("settle", 5, 2, 3)])
        hand.look(9, "d")
        papers.clear()
        told(hand, 1, 2, 2)
        self.assertEqual(papers, [("seen", 5, 2, 9, "d", 2, 0, 3)])

    def test_a_name_that_was_never_put_to(self):
        hand, papers = hand_of(0, roll=(1, 0))
        hand.ring()
        hand.look(8, "zzzzzzzz")
        self.assertEqual(papers[-1], ("seen", 1, 2, 8, "zzzzzzzz", 1, 0, 1))

    def test_the_row_is_not_put_to(self):
        hand, papers = chair_of(0)
        row = row_state(hand.row)
        hand.look(8, "c")
        self.assertEqual(row_state(hand.row), row)

    def test_at_another_hand_it_is_refused(self):
        self.assert_no_chair(lambda hand: hand.look(1, "a"))

    def test_great_places(self):
        hand, papers = chair_of(0, base=GREAT, term=GREAT_TERM)
        hand.look(10 ** 59, "a")
        self.assertEqual(papers[-1], ("look", GREAT_TERM + 1, 2, 10 ** 59, "a", GREAT + 1))


class ChangeTest(Refusals):
    def settled_chair(self, roll=(3, 0)):
        hand, papers = chair_of(0, roll=roll)
        told(hand, 1, 1, 1)
        papers.clear()
        return hand, papers

    def test_at_a_chair(self):
        for S, others in ((12, [1, 2, 3]), (3, [1]), (1, [1]), (1 << 59, [1, 59]), (7, [1, 2])):
            hand, papers = self.settled_chair()
            what = ("roll", 3, S)
            letters = hand.change(S)
            self.assertEqual([letter[2] for letter in letters], others)
            self.assertEqual(letters[0], ("tell", 0, 1, 1, 2, 1, 1, ((1, what),), 1))
            for letter in letters[1:]:
                self.assertEqual(letter, ("tell", 0, letter[2], 1, 2, 0, 0, ((1, START), (1, what)), 1))
            self.assertEqual(papers, [("write", 1, 2, what), ("beat", 1, 2)])
            self.assertEqual((hand.row.roll(), hand.row.roll_place(), hand.settled), ((3, S), 2, 1))

    def test_one_hand_alone_changes_at_once(self):
        hand, papers = hand_of(0, roll=(1, 0))
        hand.ring()
        papers.clear()
        self.assertEqual(hand.change(1), [])
        self.assertEqual(papers, [
            ("write", 1, 2, ("roll", 1, 1)), ("beat", 1, 2), ("settle", 1, 2, 1),
            ("write", 1, 3, ("roll", 1, 0)), ("beat", 1, 3), ("settle", 1, 3, 1),
        ])
        self.assertEqual((hand.row.roll(), hand.settled), ((1, 0), 3))

    def test_the_set_without_hands_is_refused_first_of_all(self):
        busy = self.settled_chair()[0]
        busy.change(12)
        for hand, papers in (hand_of(0), asker_of(0), follower_of(2), self.settled_chair(), (busy, [])):
            self.assert_refused(hand, papers, lambda hand: hand.change(0), NoRoll, 0)

    def test_at_another_hand_it_is_refused(self):
        self.assert_no_chair(lambda hand: hand.change(3))

    def test_a_hand_with_a_double_roll_that_does_not_chair_is_refused_as_no_chair(self):
        hand, papers = follower_of(2, roll=(3, 4))
        self.assert_refused(hand, papers, lambda hand: hand.change(3), NoChair, 2)

    def test_a_double_roll_is_refused_with_busy(self):
        hand, papers = self.settled_chair()
        hand.change(12)
        papers.clear()
        self.assert_refused(hand, papers, lambda hand: hand.change(7), Busy, 2)

    def test_a_double_roll_at_the_base_is_refused_with_busy(self):
        for base in (0, 6, GREAT):
            hand, papers = chair_of(0, roll=(3, 1), base=base)
            self.assert_refused(hand, papers, lambda hand: hand.change(7), Busy, base)

    def test_a_roll_that_is_not_settled_is_refused_with_busy(self):
        for base in (0, GREAT):
            entries = [(2, START), (2, ("roll", 7, 0)), (2, ask(1))]
            hand, papers = chair_of(0, roll=(3, 0), base=base, term=4, entries=entries)
            self.assert_refused(hand, papers, lambda hand: hand.change(7), Busy, base + 2)
            told(hand, 1, 1, base + 4)
            papers.clear()
            hand.change(15)
            self.assertEqual(papers[0], ("write", 5, base + 5, ("roll", 7, 15)))

    def test_a_roll_left_behind_is_busy_until_the_next_one_is_settled(self):
        hand, papers = self.settled_chair()
        hand.change(6)
        for who in (1, 2):
            told(hand, who, 2, 2)
        papers.clear()
        self.assertEqual((hand.row.roll(), hand.settled), ((6, 0), 2))
        self.assert_refused(hand, papers, lambda hand: hand.change(7), Busy, 3)
        for who in (1, 2):
            told(hand, who, 3, 3)
        papers.clear()
        hand.change(7)
        self.assertEqual(papers[0], ("write", 1, 4, ("roll", 6, 7)))

    def test_a_base_roll_needs_nothing_settled(self):
        hand, papers = chair_of(0, roll=(3, 0))
        self.assertEqual(hand.settled, 0)
        hand.change(7)
        self.assertEqual(papers[0], ("write", 1, 2, ("roll", 3, 7)))

    def test_a_roll_is_no_longer_in_force_once_it_is_cut(self):
        hand, papers = self.settled_chair()
        hand.change(12)
        hand.take(("tell", 1, 0, 3, 1, 1, 1, ((3, START),), 0))
        self.assertEqual((hand.row.roll(), hand.row.roll_place()), ((3, 0), 0))
        self.assertEqual([letter[2] for letter in hand.ring()], [1])


class FoldTest(unittest.TestCase):
    def test_any_hand_folds_at_its_done_place(self):
        for base in (0, 5, GREAT):
            for settled in range(4):
                hand, papers = hand_of(0, term=6, base=base, base_term=1)
                entries = [(6, ask(1)), (6, ("roll", 7, 3)), (6, ask(2, ("put", "b", 4)))]
                hand.take(("tell", 1, 0, 6, 1, base, 1, tuple(entries), base + settled))
                papers.clear()
                shelf = hand.shelf.told()
                term = 6 if settled else 1
                roll = (7, 3) if settled >= 2 else (7, 0)
                self.assertEqual(hand.fold(), base + settled)
                self.assertEqual(row_state(hand.row), (base + settled, term, roll, entries[settled:]))
                self.assertEqual(hand.book().kept, shelf)
                self.assertEqual((hand.shelf.told(), papers), (shelf, []))
                self.assertEqual((hand.settled, hand.done), (base + settled, base + settled))
                self.assertEqual((hand.row.roll(), hand.chair, hand.seat.word()), ((7, 3), 1, "sits"))
                before = whole_state(hand)
                self.assertEqual(hand.fold(), base + settled)
                self.assertEqual(whole_state(hand), before)

    def test_the_shelf_kept_is_the_one_at_the_place_of_folding(self):
        hand, papers = hand_of(0, term=6)
        self.assertEqual(hand.book().kept, EMPTY)
        hand.take(("tell", 1, 0, 6, 1, 0, 0, tuple(asks(6, 1, 4)), 2))
        self.assertEqual(hand.book().kept, EMPTY)
        hand.fold()
        hand.take(("tell", 1, 0, 6, 2, 4, 6, (), 4))
        two = ((("a", 2),), ((0, 1, 1), (0, 2, 2)))
        self.assertEqual(hand.book().kept, two)
        self.assertEqual(hand.shelf.value_of("a"), 4)
        again = Hand(0, read_book(written(hand.book())))
        self.assertEqual((again.settled, again.done, again.shelf.told()), (2, 2, two))
        self.assertEqual(again.row.entries(), asks(6, 3, 2))

    def test_a_chair_folds_and_goes_on(self):
        hand, papers = chair_of(0)
        hand.ask(0, 1, ADD)
        told(hand, 1, 2, 2)
        self.assertEqual(hand.fold(), 2)
        self.assertEqual((hand.seat.word(), hand.row.base, hand.row.last()), ("chairs", 2, 2))
        papers.clear()
        letters = hand.ask(0, 2, ADD)
        self.assertEqual([letter[:6] for letter in letters], [("tell", 0, 1, 1, 3, 2), ("whole", 0, 2, 1, 3, 2)])
        told(hand, 1, 3, 3)
        self.assertEqual(papers[2:], [("settle", 1, 3, 3), ("answer", 1, 0, 2, 3, 2)])
        self.assertEqual(hand.fold(), 3)

    def test_a_look_behind_a_fold_waits_for_the_settled_place(self):
        hand, papers = chair_of(0)
        hand.ask(0, 1, ADD)
        told(hand, 1, 2, 2)
        hand.fold()
        hand.look(3, "a")
        papers.clear()
        told(hand, 1, 3, 2)
        self.assertEqual(papers, [("seen", 1, 3, 3, "a", 2, 1, 3)])

    def test_an_asker_folds_and_asks_on(self):
        hand, papers = asker_of(0, term=6, entries=asks(2, 1, 2))
        self.assertEqual(hand.fold(), 0)
        self.assertEqual((hand.seat.word(), hand.row.last()), ("asks", 2))
        hand.take(("vote", 1, 0, 7))
        self.assertEqual(hand.seat.word(), "chairs")

    def test_a_new_hand_folds_nothing(self):
        kept = ((("a", 2),), ((0, 1, 1),))
        hand, papers = hand_of(0, base=4, base_term=2, entries=asks(2, 1, 2), kept=kept)
        before = whole_state(hand)
        self.assertEqual(hand.fold(), 4)
        self.assertEqual(whole_state(hand), before)


if __name__ == "__main__":
    unittest.main()
