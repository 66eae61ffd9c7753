"""A hand: how it takes the chair and tells on, and what another hand does with tells and wholes."""

import unittest

from chairvote.hands import Hand
from tests.making import (
    EMPTY, GREAT, GREAT_TERM, START, ask, asker_of, asks, chair_of, hand_of, row_state, told, told_state, whole_state,
)

KEPT = ((("a", 3),), ((0, 1, 3),))
OTHER = ((("b", 8),), ((5, 5, 8),))


class TakingTheChairTest(unittest.TestCase):
    def test_what_happens_in_which_order(self):
        for base in (0, 6, GREAT):
            hand, papers = asker_of(0, term=4, base=base, base_term=2, entries=asks(3, 1, 2), kept=KEPT)
            letters = hand.take(("vote", 2, 0, 5))
            entries = ((5, START),)
            self.assertEqual(letters, [("tell", 0, h, 5, 1, base + 2, 3, entries, base) for h in (1, 2)])
            self.assertEqual(papers, [("chair", 0, 5, 5), ("write", 5, base + 3, START), ("beat", 5, 1)])
            self.assertEqual(row_state(hand.row), (base, 2, (7, 0), asks(3, 1, 2) + [(5, START)]))
            self.assertEqual((hand.term, hand.vote, hand.chair, hand.seat.word()), (5, 0, 0, "chairs"))
            self.assertEqual((hand.settled, hand.done), (base, base))

    def test_at_a_row_without_entries(self):
        hand, papers = asker_of(0, base=9, base_term=4, roll=(3, 0))
        self.assertEqual(hand.take(("vote", 1, 0, 1)), [("tell", 0, 1, 1, 1, 9, 4, ((1, START),), 9)])

    def test_it_settles_where_it_is_alone(self):
        hand, papers = hand_of(0, roll=(1, 0))
        hand.ring()
        self.assertEqual(papers[-1], ("settle", 1, 1, 1))
        self.assertEqual((hand.settled, hand.done), (1, 1))

    def test_a_hand_that_is_no_member_chairs_and_tells_on(self):
        hand, papers = asker_of(4, roll=(6, 0))
        hand.take(("vote", 1, 4, 1))
        letters = hand.take(("vote", 2, 4, 1))
        self.assertEqual(letters, [("tell", 4, h, 1, 1, 0, 0, ((1, START),), 0) for h in (1, 2)])

    def test_beats_begin_at_1_in_each_term(self):
        hand, papers = chair_of(0)
        hand.ring()
        hand.take(("late", 1, 0, 7))
        hand.ring()
        papers.clear()
        letters = hand.take(("vote", 1, 0, 8))
        self.assertEqual([letter[4] for letter in letters], [1, 1])
        self.assertEqual(papers[-1], ("beat", 8, 1))
        self.assertEqual([letter[5:8] for letter in letters], [(1, 1, ((8, START),))] * 2)

    def test_what_was_told_in_another_term_is_forgotten(self):
        hand, papers = chair_of(0, roll=(31, 0), voters=(1, 2))
        told(hand, 1, 1, 1)
        told(hand, 2, 1, 0)
        hand.take(("late", 1, 0, 7))
        hand.ring()
        for voter in (1, 2):
            letters = hand.take(("vote", voter, 0, 8))
        self.assertEqual(letters, [("tell", 0, h, 8, 1, 1, 1, ((8, START),), 0) for h in (1, 2, 3, 4)])


class TellingOnTest(unittest.TestCase):
    def test_where_no_told_was_taken_telling_begins_at_the_start_place(self):
        hand, papers = chair_of(0, term=4, entries=asks(3, 1, 3))
        for k in range(6):
            letters = hand.ask(1, k, ("add", "a", 1))
            entries = ((5, START),) + tuple((5, ask(j, who=1)) for j in range(k + 1))
            self.assertEqual(letters, [("tell", 0, h, 5, k + 2, 3, 3, entries[:4], 0) for h in (1, 2)])

    def test_else_it_begins_behind_the_place_told(self):
        for base in (0, 5):
            for place in range(0, 11):
                parts = {"base": base, "base_term": 2, "roll": (31, 0), "entries": asks(3, 1, 9)}
                hand, papers = chair_of(0, voters=(1, 2), term=4, **parts)
                told(hand, 1, 1, base + place)
                entries = asks(3, 1, 9) + [(5, START)]
                prev_term = {0: 2, 10: 5}.get(place, 3)
                expected = ("tell", 0, 1, 5, 2, base + place, prev_term, tuple(entries[place:place + 4]), base)
                self.assertEqual(hand.ring()[0], expected)

    def test_where_that_hand_has_all_no_entries_are_told(self):
        hand, papers = chair_of(0, roll=(31, 0), voters=(1, 2))
        told(hand, 3, 1, 1)
        self.assertEqual(hand.ring()[2], ("tell", 0, 3, 1, 2, 1, 1, (), 0))

    def test_four_entries_at_most(self):
        hand, papers = chair_of(0, roll=(31, 0), voters=(1, 2), entries=asks(0, 1, 7))
        for place, count in ((0, 4), (3, 4), (4, 4), (5, 3), (6, 2), (7, 1), (8, 0)):
            told(hand, 1, 1, place)
            self.assertEqual(len(hand.ring()[0][7]), count)

    def test_each_hand_is_told_from_its_own_place(self):
        hand, papers = chair_of(0, roll=(31, 0), voters=(1, 2), entries=asks(0, 1, 7))
        for who, place in ((1, 2), (3, 7)):
            told(hand, who, 1, place)
        letters = hand.ring()
        self.assertEqual([letter[2] for letter in letters], [1, 2, 3, 4])
        self.assertEqual([letter[5] for letter in letters], [2, 7, 7, 7])

    def test_the_settled_place_goes_along(self):
        hand, papers = chair_of(0)
        hand.ask(1, 1, ("add", "a", 1))
        told(hand, 1, 2, 2)
        self.assertEqual([letter[8] for letter in hand.ring()], [2, 2])

    def test_a_whole_where_the_place_is_no_greater_than_the_base(self):
        for base in (3, GREAT):
            for place, is_whole in ((0, True), (base - 2, True), (base - 1, True), (base, False), (base + 1, False)):
                hand, papers = chair_of(0, term=4, base=base, base_term=2, roll=(31, 0), voters=(1, 2), kept=KEPT)
                told(hand, 1, 1, place)
                letter = hand.ring()[0]
                if is_whole:
                    self.assertEqual(letter, ("whole", 0, 1, 5, 2, base, 2, (31, 0), KEPT))
                else:
                    entries = ((5, START),)[place - base:]
                    self.assertEqual(letter, ("tell", 0, 1, 5, 2, place, 2 if entries else 5, entries, base))

    def test_a_whole_behind_a_fold(self):
        hand, papers = chair_of(0, roll=(7, 0))
        hand.ask(1, 1, ("put", "a", 6))
        told(hand, 1, 1, 2)
        self.assertEqual(hand.fold(), 2)
        self.assertEqual(hand.ring(), [
            ("tell", 0, 1, 1, 3, 2, 1, (), 2), ("whole", 0, 2, 1, 3, 2, 1, (7, 0), ((("a", 6),), ((1, 1, 0),))),
        ])

    def test_the_base_of_a_whole_tells_the_roll_in_force_there(self):
        hand, papers = chair_of(0, roll=(3, 0))
        told(hand, 1, 1, 1)
        hand.change(7)
        told(hand, 1, 2, 2)
        self.assertEqual((hand.row.roll(), hand.fold()), ((7, 0), 2))
        self.assertEqual(hand.ring()[1], ("whole", 0, 2, 1, 4, 2, 1, (3, 7), EMPTY))

    def test_letters_go_to_the_members_of_the_roll_as_it_stands(self):
        hand, papers = chair_of(0, roll=(3, 0))
        told(hand, 1, 1, 1)
        letters = hand.change(1 << 59 | 8)
        self.assertEqual([letter[2] for letter in letters], [1, 3, 59])

    def test_great_places_and_terms(self):
        hand, papers = chair_of(0, term=GREAT_TERM, base=GREAT, base_term=GREAT_TERM - 5)
        self.assertEqual(
            hand.ring()[0], ("tell", 0, 1, GREAT_TERM + 1, 2, GREAT, GREAT_TERM - 5, ((GREAT_TERM + 1, START),), GREAT),
        )


class TellTest(unittest.TestCase):
    def tell(self, hand, prev, prev_term, entries, settled=0, beat=3, who=1):
        return hand.take(("tell", who, hand.me, hand.term, beat, prev, prev_term, tuple(entries), settled))

    def test_at_a_hand_that_chairs_it_comes_to_nothing(self):
        hand, papers = chair_of(0, term=4)
        before = whole_state(hand)
        self.assertEqual(self.tell(hand, 0, 0, asks(5, 1, 2), 2), [])
        self.assertEqual(hand.take(("whole", 1, 0, 5, 3, 9, 5, (3, 0), OTHER)), [])
        self.assertEqual(whole_state(hand), before)
        self.assertEqual(papers, [])

    def test_a_hand_sits_then_also_if_it_asked(self):
        for make in (hand_of, asker_of):
            for is_whole in (False, True):
                hand, papers = make(0, term=5)
                term, vote = hand.term, hand.vote
                letter = ("tell", 2, 0, term, 3, 5, 5, (), 0)
                if is_whole:
                    letter = ("whole", 2, 0, term, 3, 0, 0, (7, 0), EMPTY)
                hand.take(letter)
                self.assertEqual((hand.seat.word(), hand.chair, hand.term, hand.vote), ("sits", 2, term, vote))

    def test_entries_that_fit(self):
        for base in (0, 4, GREAT):
            own = asks(2, 1, 3)
            for prev, prev_term, entries, row in (
                (0, 1, [], own), (0, 1, own, own), (0, 1, asks(2, 7, 1), own),
                (3, 2, asks(4, 7, 2), own + asks(4, 7, 2)),
                (2, 2, own[2:] + asks(5, 7, 1), own + asks(5, 7, 1)), (1, 2, asks(4, 7, 1), own[:1] + asks(4, 7, 1)),
                (0, 1, asks(3, 7, 4), asks(3, 7, 4)), (3, 2, [], own), (1, 2, [], own),
            ):
                with self.subTest(base=base, prev=prev, entries=entries):
                    hand, papers = hand_of(0, term=6, base=base, base_term=1, entries=own, kept=KEPT)
                    place = base + prev + len(entries)
                    self.assertEqual(
                        self.tell(hand, base + prev, prev_term, entries), [("told", 0, 1, 6, 3, True, place)],
                    )
                    self.assertEqual(papers, [("told", 0, 6, place, 3)])
                    self.assertEqual(row_state(hand.row), (base, 1, (7, 0), row))
                    self.assertEqual((hand.settled, hand.done, hand.shelf.told()), (base, base, KEPT))

    def test_prev_below_the_base(self):
        for prev, entries, row in (
            (1, [], []), (1, asks(1, 1, 2), []), (2, asks(1, 1, 4), asks(1, 3, 2)), (0, asks(1, 1, 4), []),
        ):
            hand, papers = hand_of(0, term=6, base=4, base_term=1)
            place = prev + len(entries)
            self.assertEqual(self.tell(hand, prev, 99, entries, 2), [("told", 0, 1, 6, 3, True, place)])
            self.assertEqual((hand.row.entries(), hand.settled, hand.done), (row, 4, 4))
            self.assertEqual(papers, [("told", 0, 6, place, 3)])

    def test_entries_that_do_not_fit(self):
        for base in (0, 4, GREAT):
            for prev, prev_term in ((4, 2), (4, 0), (3, 1), (3, 3), (1, 1), (0, 2), (0, 0), (10 ** 40, 2)):
                for settled in (0, 2):
                    hand, papers = hand_of(0, term=6, base=base, base_term=1, entries=asks(2, 1, 3))
                    self.tell(hand, base + settled, 2 if settled else 1, (), base + settled)
                    papers.clear()
                    row = row_state(hand.row)
                    letters = self.tell(hand, base + prev, prev_term, asks(5, 9, 2), base + 9, beat=7, who=2)
                    self.assertEqual(letters, [("told", 0, 2, 6, 7, False, base + settled)])
                    self.assertEqual(papers, [("told", 0, 6, base + settled, 7)])
                    self.assertEqual(row_state(hand.row), row)
                    self.assertEqual((hand.settled, hand.done), (base + settled, base + settled))
                    self.assertEqual((hand.chair, hand.seat.word()), (2, "sits"))

    def test_the_settled_place_is_the_lesser_one_of_both_and_never_falls(self):
        for prev, count, settled, expected in (
            (0, 4, 0, 0), (0, 4, 1, 1), (0, 4, 3, 3), (0, 4, 4, 4), (0, 4, 5, 4), (0, 4, GREAT, 4), (0, 2, 9, 2),
            (0, 0, 9, 0),
            (2, 1, 9, 3), (3, 0, 9, 3), (6, 0, 9, 6), (6, 0, 5, 5),
        ):
            hand, papers = hand_of(0, term=6, entries=asks(2, 1, 6))
            entries = asks(2, 1, 6)[prev:prev + count]
            self.tell(hand, prev, 2 if prev else 0, entries, settled)
            self.assertEqual((hand.settled, hand.done), (expected, expected))
            self.assertEqual(hand.shelf.value_of("a"), expected)
            for less in range(expected):
                self.tell(hand, 6, 2, (), less)
                self.assertEqual((hand.settled, hand.done), (expected, expected))
            self.assertEqual(hand.row.entries(), asks(2, 1, 6))

    def test_what_is_settled_is_done_without_answers(self):
        entries = [(6, START), (6, ask(1, ("put", "a", 4))), (6, ("roll", 7, 3)), (6, ask(2, ("swap", "a", 4, 9)))]
        hand, papers = hand_of(0, term=6)
        self.tell(hand, 0, 0, entries, 4)
        self.assertEqual(papers, [("told", 0, 6, 4, 3)])
        self.assertEqual(hand.shelf.told(), ((("a", 9),), ((0, 1, 0), (0, 2, 1))))
        self.tell(hand, 0, 0, entries, 4)
        self.assertEqual(hand.shelf.value_of("a"), 9)
        self.assertEqual(hand.book().kept, EMPTY)

    def test_letters_that_come_twice_or_out_of_order(self):
        entries = asks(6, 1, 6)
        hand, papers = hand_of(0, term=6)
        self.assertEqual(self.tell(hand, 4, 6, entries[4:], 4, 2), [("told", 0, 1, 6, 2, False, 0)])
        self.assertEqual(self.tell(hand, 0, 0, entries[:4], 0, 1), [("told", 0, 1, 6, 1, True, 4)])
        self.assertEqual(self.tell(hand, 4, 6, entries[4:], 4, 2), [("told", 0, 1, 6, 2, True, 6)])
        self.assertEqual(self.tell(hand, 0, 0, entries[:4], 0, 1), [("told", 0, 1, 6, 1, True, 4)])
        self.assertEqual(hand.row.entries(), entries)
        self.assertEqual((hand.settled, hand.done), (4, 4))

    def test_what_is_handed_in_is_not_changed(self):
        entries = tuple(asks(6, 1, 2))
        letter = ("tell", 1, 0, 6, 3, 0, 0, entries, 1)
        hand, papers = hand_of(0, term=6)
        hand.take(letter)
        hand.ring()
        self.assertEqual(letter, ("tell", 1, 0, 6, 3, 0, 0, tuple(asks(6, 1, 2)), 1))

    def test_a_roll_told_on_is_in_force_and_no_longer_once_it_is_cut(self):
        hand, papers = hand_of(0, term=6)
        self.tell(hand, 0, 0, [(6, START), (6, ("roll", 7, 24))])
        self.assertEqual([letter[2] for letter in hand.ring()], [1, 2, 3, 4])
        hand.take(("tell", 2, 0, 8, 1, 1, 6, ((8, START),), 0))
        self.assertEqual([letter[2] for letter in hand.ring()], [1, 2])

    def test_a_hand_that_is_no_member_follows_too(self):
        hand, papers = hand_of(9, term=6)
        self.assertEqual(self.tell(hand, 0, 0, asks(6, 1, 2), 1), [("told", 9, 1, 6, 3, True, 2)])
        self.assertEqual((hand.settled, hand.chair), (1, 1))

    def test_a_settled_place_behind_an_entry_of_an_older_term(self):
        hand, papers = hand_of(0, term=6, entries=asks(2, 1, 3))
        self.tell(hand, 2, 2, (), 2)
        self.assertEqual(hand.settled, 2)


class WholeTest(unittest.TestCase):
    def whole(self, hand, place, term, roll, kept, beat=3, who=1):
        return hand.take(("whole", who, hand.me, hand.term, beat, place, term, roll, kept))

    def hand(self, base=0):
        """A hand with five entries of term 2, the first two of them settled."""
        hand, papers = hand_of(0, term=6, base=base, base_term=1, entries=asks(2, 1, 5))
        hand.take(("tell", 2, 0, 6, 1, base + 2, 2, (), base + 2))
        papers.clear()
        return hand, papers

    def test_a_place_greater_than_the_settled_one(self):
        for base in (0, 4, GREAT):
            for place, term, left in (
                (3, 2, 2), (4, 2, 1), (5, 2, 0), (3, 3, 0), (5, 1, 0), (6, 2, 0), (10 ** 40, 6, 0),
            ):
                hand, papers = self.hand(base)
                letters = self.whole(hand, base + place, term, (3, 4), OTHER)
                self.assertEqual(letters, [("told", 0, 1, 6, 3, True, base + place)])
                self.assertEqual(papers, [("told", 0, 6, base + place, 3)])
                self.assertEqual(row_state(hand.row), (base + place, term, (3, 4), asks(2, 1, 5)[5 - left:]))
                self.assertEqual((hand.settled, hand.done), (base + place, base + place))
                self.assertEqual((hand.shelf.told(), hand.book().kept), (OTHER, OTHER))
                self.assertEqual((hand.chair, hand.seat.word()), (1, "sits"))

    def test_any_other_whole_changes_nothing_more(self):
        for base in (0, 4, GREAT):
            for place in (0, 1, 2):
                for term in (2, 9):
                    hand, papers = self.hand(base)
                    state = told_state(hand)
                    letters = self.whole(hand, base + place, term, (3, 4), OTHER, who=2)
                    self.assertEqual(letters, [("told", 0, 2, 6, 3, True, base + place)])
                    self.assertEqual(papers, [("told", 0, 6, base + place, 3)])
                    self.assertEqual(told_state(hand), state)

    def test_a_place_below_the_base(self):
        hand, papers = self.hand(4)
        state = told_state(hand)
        self.assertEqual(self.whole(hand, 1, 1, (3, 4), OTHER, who=2), [("told", 0, 2, 6, 3, True, 1)])
        self.assertEqual(told_state(hand), state)

    def test_the_shelf_goes_on_from_the_one_told(self):
        hand, papers = self.hand()
        self.whole(hand, 9, 5, (7, 0), OTHER)
        hand.take(("tell", 1, 0, 6, 4, 9, 5, ((6, ask(5, ("add", "b", 1), 5)), (6, ask(6, ("add", "b", 1), 5))), 11))
        self.assertEqual(hand.shelf.told(), ((("b", 9),), ((5, 5, 8), (5, 6, 9))))
        self.assertEqual(hand.book().kept, OTHER)
        self.assertEqual((hand.settled, hand.done), (11, 11))

    def test_two_hands_of_one_whole_are_apart(self):
        one, papers = self.hand()
        two, papers = self.hand()
        self.whole(one, 9, 5, (7, 0), OTHER)
        self.whole(two, 9, 5, (7, 0), OTHER)
        one.take(("tell", 1, 0, 6, 4, 9, 5, ((6, ask(7)),), 10))
        self.assertEqual(two.shelf.told(), OTHER)

    def test_entries_that_stay_are_done_behind_it(self):
        hand, papers = self.hand()
        self.whole(hand, 3, 2, (7, 0), ((("a", 3),), ((0, 1, 1), (0, 2, 2), (0, 3, 3))))
        hand.take(("tell", 1, 0, 6, 4, 5, 2, (), 5))
        self.assertEqual((hand.settled, hand.done, hand.shelf.value_of("a")), (5, 5, 5))

    def test_a_whole_written_and_read(self):
        hand, papers = self.hand()
        self.whole(hand, 9, 5, (3, 4), OTHER)
        again = Hand(0, hand.book())
        self.assertEqual((again.settled, again.done, again.shelf.told()), (9, 9, OTHER))
        self.assertEqual(again.row.roll(), (3, 4))

    def test_an_asker_that_takes_a_whole(self):
        hand, papers = asker_of(0, term=5)
        self.whole(hand, 9, 5, (3, 4), OTHER, who=2)
        self.assertEqual((hand.seat.word(), hand.chair, hand.vote, hand.settled), ("sits", 2, 0, 9))


if __name__ == "__main__":
    unittest.main()
