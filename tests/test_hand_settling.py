"""A hand that chairs: tolds, settling, what is done then, and rolls that are left behind."""

import itertools
import unittest

from chairvote.hands import Hand
from chairvote.rolls import set_of, wins
from tests.making import GREAT, GREAT_TERM, START, ask, asker_of, asks, chair_of, hand_of, told, whole_state

ADD = ("add", "a", 1)


def chair_with(count, size=5, **parts):
    """A chair of so many hands, its start place and so many asks behind it; it took no told so far."""
    hand, papers = chair_of(0, voters=range(1, size // 2 + 1), roll=((1 << size) - 1, 0), **parts)
    for k in range(count):
        hand.ask(0, k + 1, ADD)
    papers.clear()
    return hand, papers


class ToldTest(unittest.TestCase):
    def test_at_a_hand_that_does_not_chair_it_comes_to_nothing(self):
        for hand, papers in (hand_of(0, term=5), asker_of(0, term=4)):
            for yes in (True, False):
                before = whole_state(hand)
                self.assertEqual(hand.take(("told", 1, 0, 5, 1, yes, 0)), [])
                self.assertEqual(whole_state(hand), before)
                self.assertEqual(papers, [])

    def test_the_first_told_of_a_hand_that_lacks_entries(self):
        for place in range(0, 7):
            for yes in (True, False):
                hand, papers = chair_with(5)
                letters = told(hand, 3, 2, place, yes)
                entries = ([(1, START)] + asks(1, 1, 5))[place:place + 4]
                letter = ("tell", 0, 3, 1, 6, place, 1 if place else 0, tuple(entries), 0)
                self.assertEqual(letters, [letter] if place < 6 or not yes else [])
                self.assertEqual(papers, [])

    def test_the_second_told(self):
        for first, second in itertools.product(range(7), repeat=2):
            for yes in (True, False):
                hand, papers = chair_with(5)
                told(hand, 3, 2, first)
                letters = told(hand, 3, 2, second, yes)
                greatest = max(first, second)
                is_sent = not yes or (second > first and greatest < 6)
                expected = [("tell", 0, 3, 1, 6, greatest)] if is_sent else []
                self.assertEqual([letter[:6] for letter in letters], expected)

    def test_a_no_is_answered_each_time(self):
        hand, papers = chair_with(5)
        for again in range(3):
            self.assertEqual([letter[5] for letter in told(hand, 3, 2, 2, False)], [2])
        self.assertEqual([letter[5:8] for letter in told(hand, 3, 2, 6, False)], [(6, 1, ())])

    def test_each_hand_has_a_first_told_of_its_own(self):
        hand, papers = chair_with(5, size=9)
        self.assertEqual(len(told(hand, 3, 2, 4)), 1)
        self.assertEqual(len(told(hand, 2, 2, 4)), 1)
        self.assertEqual(len(told(hand, 3, 2, 4)), 0)
        self.assertEqual(len(told(hand, 2, 2, 4)), 0)

    def test_a_first_told_of_the_place_0(self):
        hand, papers = chair_with(0, term=4, entries=asks(3, 1, 2))
        self.assertEqual(
            told(hand, 3, 1, 0), [("tell", 0, 3, 5, 1, 0, 0, tuple(asks(3, 1, 2)) + ((5, START),), 0)],
        )
        self.assertEqual(told(hand, 3, 1, 0), [])

    def test_the_letter_bears_the_beat_that_the_chair_is_at(self):
        hand, papers = chair_with(5)
        hand.ring()
        self.assertEqual(told(hand, 3, 1, 2)[0][4], 7)
        self.assertEqual(told(hand, 4, 7, 2)[0][4], 7)

    def test_a_hand_that_is_no_member_is_written_to(self):
        hand, papers = chair_with(5)
        self.assertEqual([letter[2:6] for letter in told(hand, 44, 2, 3)], [(44, 1, 6, 3)])
        self.assertEqual(told(hand, 44, 2, 3), [])
        self.assertNotIn(44, [letter[2] for letter in hand.ring()])

    def test_a_whole_goes_to_a_hand_that_lacks_what_is_folded(self):
        hand, papers = chair_with(5, size=3)
        told(hand, 1, 2, 4)
        self.assertEqual(hand.fold(), 4)
        kept = ((("a", 3),), ((0, 1, 1), (0, 2, 2), (0, 3, 3)))
        self.assertEqual(told(hand, 2, 2, 3), [("whole", 0, 2, 1, 6, 4, 1, (7, 0), kept)])
        self.assertEqual(told(hand, 2, 2, 4), [("tell", 0, 2, 1, 6, 4, 1, tuple(asks(1, 4, 2)), 4)])

    def test_late_tolds_take_nothing_back(self):
        hand, papers = chair_with(5, size=3)
        hand.look(7, "a")
        told(hand, 1, 2, 4)
        self.assertEqual(hand.settled, 4)
        told(hand, 1, 1, 2)
        self.assertEqual(hand.ring()[0][5], 4)
        self.assertEqual(hand.settled, 4)

    def test_beats_and_places_grow_apart(self):
        # The greater beat comes with the lesser place: both are kept.
        hand, papers = chair_with(1, size=3)
        hand.look(7, "a")
        told(hand, 1, 1, 2)
        self.assertEqual(hand.settled, 2)
        self.assertNotIn("seen", [paper[0] for paper in papers])
        told(hand, 1, 3, 0, False)
        self.assertEqual(papers[-1], ("seen", 1, 3, 7, "a", 2, 1, 3))
        self.assertEqual(hand.ring()[0][5], 2)

    def test_a_no_counts_for_settling_like_a_yes(self):
        hand, papers = chair_with(3, size=3)
        letters = told(hand, 1, 4, 2, False)
        self.assertEqual(papers, [("settle", 1, 2, 3), ("answer", 1, 0, 1, 2, 1)])
        self.assertEqual([letter[5:9] for letter in letters], [(2, 1, tuple(asks(1, 2, 2)), 2)])


class SettlingTest(unittest.TestCase):
    def test_the_greatest_place_that_is_won(self):
        for places in itertools.product(range(4), repeat=4):
            hand, papers = chair_with(2)
            for who, place in enumerate(places, start=1):
                told(hand, who, 3, place)
            known = (3,) + places
            won = [p for p in (1, 2, 3) if wins((31, 0), set_of([h for h, place in enumerate(known) if place >= p]))]
            self.assertEqual(hand.settled, max(won, default=0))
            self.assertEqual(hand.done, hand.settled)
            settles = [paper for paper in papers if paper[0] == "settle"]
            self.assertEqual([paper[2] for paper in settles], sorted({paper[2] for paper in settles}))
            self.assertEqual(settles[-1][2] if settles else 0, hand.settled)

    def test_the_paper_tells_all_hands_that_have_the_place(self):
        hand, papers = chair_with(3, size=5)
        told(hand, 9, 4, 3)
        told(hand, 8, 4, 2)
        told(hand, 1, 4, 4)
        told(hand, 3, 4, 2)
        self.assertEqual([p for p in papers if p[0] == "settle"], [("settle", 1, 2, set_of([0, 1, 3, 8, 9]))])
        papers.clear()
        told(hand, 3, 4, 4)
        self.assertEqual(papers[0], ("settle", 1, 4, set_of([0, 1, 3])))

    def test_hands_that_told_nothing_have_nothing(self):
        hand, papers = chair_of(0, roll=(3, 0))
        self.assertEqual((hand.settled, papers), (0, []))
        hand.ring()
        self.assertEqual((hand.settled, hand.done), (0, 0))

    def test_only_places_of_its_own_term(self):
        for term, count in ((4, 3), (GREAT_TERM, 5)):
            hand, papers = chair_with(0, size=3, term=term, entries=asks(3, 1, count))
            for place in range(count + 1):
                told(hand, 1, 1, place)
                self.assertEqual((hand.settled, hand.done, papers), (0, 0, []))
            told(hand, 1, 1, count + 1)
            answers = [("answer", term + 1, 0, k, k, k) for k in range(1, count + 1)]
            self.assertEqual(papers, [("settle", term + 1, count + 1, 3)] + answers)
            self.assertEqual((hand.settled, hand.done), (count + 1, count + 1))

    def test_places_of_other_terms_are_passed_over(self):
        # The terms of a book's entries may fall, and reach the one that the hand comes to.
        entries = [(5, ask(1)), (5, ask(2)), (3, ask(3)), (9, ask(4))]
        for place in (3, 4):
            hand, papers = chair_with(0, size=3, term=4, entries=entries)
            told(hand, 1, 1, place)
            self.assertEqual(papers, [("settle", 5, 2, 3), ("answer", 5, 0, 1, 1, 1), ("answer", 5, 0, 2, 2, 2)])
            papers.clear()
            told(hand, 1, 1, 5)
            self.assertEqual(papers, [("settle", 5, 5, 3), ("answer", 5, 0, 3, 3, 3), ("answer", 5, 0, 4, 4, 4)])

    def test_a_place_settled_already_is_not_settled_again(self):
        hand, papers = chair_with(2, size=3)
        told(hand, 1, 3, 3)
        papers.clear()
        for who in (1, 2, 2, 1):
            told(hand, who, 3, 3)
        self.assertEqual(papers, [])

    def test_from_a_base_and_with_great_places(self):
        kept = ((("a", 7),), ((5, 5, 7),))
        hand, papers = chair_with(1, size=3, base=GREAT, base_term=2, kept=kept, term=GREAT_TERM)
        self.assertEqual(hand.settled, GREAT)
        told(hand, 2, 2, GREAT + 2)
        term = GREAT_TERM + 1
        self.assertEqual(papers, [("settle", term, GREAT + 2, 5), ("answer", term, 0, 1, GREAT + 2, 8)])
        self.assertEqual((hand.settled, hand.done, hand.shelf.value_of("a")), (GREAT + 2, GREAT + 2, 8))

    def test_a_bell_settles_nothing(self):
        hand, papers = chair_with(1, size=3)
        hand.ring()
        self.assertEqual(papers, [("beat", 1, 3)])

    def test_one_hand_alone_settles_at_once(self):
        hand, papers = hand_of(5, roll=(32, 0))
        hand.ring()
        papers.clear()
        self.assertEqual(hand.ask(3, 4, ("put", "b", 9)), [])
        self.assertEqual(papers, [
            ("write", 1, 2, ("ask", 3, 4, ("put", "b", 9))), ("beat", 1, 2), ("settle", 1, 2, 32),
            ("answer", 1, 3, 4, 2, 0),
        ])
        self.assertEqual((hand.settled, hand.done, hand.shelf.value_of("b")), (2, 2, 9))

    def test_a_chair_that_is_no_member_counts_for_nothing(self):
        hand, papers = asker_of(5, roll=(7, 0))
        for voter in (0, 1):
            hand.take(("vote", voter, 5, 1))
        papers.clear()
        told(hand, 0, 1, 1)
        self.assertEqual((hand.settled, papers), (0, []))
        told(hand, 2, 1, 1)
        self.assertEqual(papers, [("settle", 1, 1, 32 + 5)])

    def test_both_sets_of_a_double_roll_are_asked(self):
        hand, papers = chair_of(0, voters=(1, 3, 4), roll=(7, 56))
        for who, settled in ((1, 0), (2, 0), (3, 0), (4, 2)):
            told(hand, who, 1, 1)
            self.assertEqual(hand.settled > 0, settled > 0)
        self.assertEqual(papers, [("settle", 1, 1, 31), ("write", 1, 2, ("roll", 56, 0)), ("beat", 1, 2)])


class DoingTest(unittest.TestCase):
    def test_asks_are_done_and_answered_in_order(self):
        hand, papers = chair_of(0, roll=(3, 0))
        orders = [("put", "a", 5), ("add", "a", -7), ("swap", "a", -2, 10 ** 45), ("swap", "a", -2, 4), ("put", "a", 0)]
        for k, order in enumerate(orders):
            hand.ask(9, -k, order)
        papers.clear()
        told(hand, 1, 6, 6)
        answers = [0, -2, 1, 0, 10 ** 45]
        expected = [("answer", 1, 9, -k, k + 2, answer) for k, answer in enumerate(answers)]
        self.assertEqual(papers, [("settle", 1, 6, 3)] + expected)
        self.assertEqual(hand.shelf.told(), ((), tuple(sorted((9, -k, answer) for k, answer in enumerate(answers)))))

    def test_an_ask_that_stands_twice_is_done_once_and_answered_twice(self):
        hand, papers = chair_of(0, roll=(3, 0))
        hand.ask(9, 1, ("add", "a", 5))
        hand.ask(9, 1, ("add", "a", 6))
        told(hand, 1, 3, 3)
        answers = [paper for paper in papers if paper[0] == "answer"]
        self.assertEqual(answers, [("answer", 1, 9, 1, 2, 5), ("answer", 1, 9, 1, 3, 5)])
        self.assertEqual(hand.shelf.value_of("a"), 5)

    def test_an_ask_done_by_the_shelf_kept_is_answered_by_it(self):
        hand, papers = chair_of(0, roll=(3, 0), base=6, kept=((("a", 1),), ((9, 1, 77),)))
        hand.ask(9, 1, ("add", "a", 5))
        papers.clear()
        told(hand, 1, 2, 8)
        self.assertEqual(papers, [("settle", 1, 8, 3), ("answer", 1, 9, 1, 8, 77)])
        self.assertEqual(hand.shelf.value_of("a"), 1)

    def test_start_and_roll_do_nothing(self):
        hand, papers = chair_of(0, roll=(1, 2), entries=[(0, ("roll", 1, 2))])
        told(hand, 1, 1, 2)
        self.assertEqual(hand.shelf.told(), ((), ()))
        self.assertEqual([paper[0] for paper in papers], ["settle", "write", "beat"])

    def test_each_place_is_done_once(self):
        hand, papers = chair_with(4, size=3)
        for place in (2, 3, 3, 5, 1, 5):
            told(hand, 1, 2, place)
        answers = [paper for paper in papers if paper[0] == "answer"]
        self.assertEqual(answers, [("answer", 1, 0, k, k + 1, k) for k in (1, 2, 3, 4)])

    def test_a_chair_does_what_it_did_not_do_as_a_hand_that_sits(self):
        hand, papers = hand_of(0, term=6)
        hand.take(("tell", 1, 0, 6, 1, 0, 0, tuple(asks(6, 1, 3)), 1))
        hand.ring()
        hand.take(("vote", 1, 0, 7))
        papers.clear()
        told(hand, 1, 1, 4)
        self.assertEqual(papers, [("settle", 7, 4, 3), ("answer", 7, 0, 2, 2, 2), ("answer", 7, 0, 3, 3, 3)])
        self.assertEqual(hand.shelf.value_of("a"), 3)


class DoubleRollTest(unittest.TestCase):
    def changed(self):
        """The chair 0 of the hands 0 and 1, on its way to the hands 2 and 3, its start settled."""
        hand, papers = chair_of(0, roll=(3, 0))
        told(hand, 1, 1, 1)
        papers.clear()
        hand.change(12)
        return hand, papers

    def test_it_is_left_behind_once_it_is_settled(self):
        hand, papers = self.changed()
        self.assertEqual(papers, [("write", 1, 2, ("roll", 3, 12)), ("beat", 1, 2)])
        papers.clear()
        told(hand, 1, 2, 2)
        told(hand, 2, 2, 2)
        self.assertEqual((hand.settled, papers), (1, []))
        letters = told(hand, 3, 2, 2)
        self.assertEqual(papers, [("settle", 1, 2, 15), ("write", 1, 3, ("roll", 12, 0)), ("beat", 1, 3)])
        entry = ((1, ("roll", 12, 0)),)
        told_on = [("tell", 0, h, 1, 3, 2, 1, entry, 2) for h in (2, 3)]
        # Hand 3 is written to twice: once with all, and once as it told of a place that grew.
        self.assertEqual(letters, told_on + [told_on[1]])
        self.assertEqual((hand.row.roll(), hand.row.roll_place(), hand.settled), ((12, 0), 3, 2))
        papers.clear()
        self.assertEqual(told(hand, 2, 3, 3), [])
        self.assertEqual((papers, hand.settled), ([], 2))
        self.assertEqual(told(hand, 3, 3, 3), [])
        self.assertEqual(papers, [("settle", 1, 3, 13)])
        self.assertEqual((hand.seat.word(), hand.chair), ("chairs", 0))

    def test_a_chair_that_is_no_member_goes_on(self):
        hand, papers = self.changed()
        for who in (1, 2, 3):
            told(hand, who, 2, 2)
        for who in (2, 3):
            told(hand, who, 3, 3)
        papers.clear()
        letters = hand.ask(0, 1, ADD)
        self.assertEqual([letter[2] for letter in letters], [2, 3])
        told(hand, 2, 4, 4)
        self.assertEqual(hand.settled, 3)
        told(hand, 3, 4, 4)
        self.assertEqual(papers[2:], [("settle", 1, 4, 13), ("answer", 1, 0, 1, 4, 1)])

    def test_it_settles_anew_behind_it(self):
        # Hand 1 has less than the chair: the second set, hand 0 alone, settles more than both.
        hand, papers = chair_of(0, roll=(3, 0))
        told(hand, 1, 1, 1)
        hand.change(1)
        hand.ask(0, 1, ADD)
        papers.clear()
        letters = told(hand, 1, 2, 2)
        self.assertEqual(papers, [
            ("settle", 1, 2, 3), ("write", 1, 4, ("roll", 1, 0)), ("beat", 1, 4), ("settle", 1, 4, 1),
            ("answer", 1, 0, 1, 3, 1),
        ])
        self.assertEqual(letters, [("tell", 0, 1, 1, 4, 2, 1, ((1, ask(1)), (1, ("roll", 1, 0))), 4)])

    def test_a_double_roll_of_an_older_chair_is_left_behind(self):
        entries = [(2, START), (2, ("roll", 3, 12)), (2, ask(1))]
        hand, papers = chair_of(0, voters=(1, 2, 3), roll=(3, 0), term=4, entries=entries)
        for who in (1, 2):
            told(hand, who, 1, 4)
        told(hand, 3, 1, 3)
        self.assertEqual((hand.settled, papers), (0, []))
        told(hand, 3, 1, 4)
        self.assertEqual(papers, [
            ("settle", 5, 4, 15), ("answer", 5, 0, 1, 3, 1), ("write", 5, 5, ("roll", 12, 0)), ("beat", 5, 2),
        ])

    def test_a_double_roll_at_the_base_is_left_behind(self):
        hand, papers = chair_of(0, voters=(1,), roll=(3, 1), base=7, base_term=2)
        told(hand, 1, 1, 8)
        self.assertEqual(papers, [
            ("settle", 1, 8, 3), ("write", 1, 9, ("roll", 1, 0)), ("beat", 1, 2), ("settle", 1, 9, 1),
        ])

    def test_a_double_roll_that_is_not_settled_stays(self):
        hand, papers = chair_of(0, roll=(3, 0))
        hand.ask(0, 1, ADD)
        told(hand, 1, 1, 1)
        hand.change(7)
        papers.clear()
        told(hand, 1, 1, 2)
        self.assertEqual(papers, [("settle", 1, 2, 3), ("answer", 1, 0, 1, 2, 1)])
        self.assertEqual(hand.row.roll(), (3, 7))

    def test_a_single_roll_stays(self):
        hand, papers = chair_of(0, roll=(7, 0))
        told(hand, 1, 1, 1)
        self.assertEqual(papers, [("settle", 1, 1, 3)])
        self.assertEqual(hand.row.last(), 1)

    def test_it_stays_through_a_fall(self):
        hand, papers = self.changed()
        again = Hand(0, hand.book())
        self.assertEqual((again.row.roll(), again.seat.word()), ((3, 12), "sits"))
        self.assertEqual([letter[2] for letter in again.ring()], [1, 2, 3])


if __name__ == "__main__":
    unittest.main()
