"""Writes, tolds and settles on a bench: what is taken, and what is refused for each single thing."""

import unittest

from tests.benching import ALL_RULES, BenchTest, elected, settled_line, written
from tests.making import GREAT_TERM, START, ask

ONE = (1, START)
TWO = (1, ask(1))


class WriteTest(BenchTest):
    def test_the_place_is_the_one_behind_the_line(self):
        for text in ALL_RULES:
            self.begin(*elected(0, 1, 1), text=text)
            self.refuses(("write", 1, 0, START), ("write", 1, 2, START), ("write", 1, -1, START))
            self.takes(("write", 1, 1, START))
            self.refuses(*[("write", 1, place, ask(1)) for place in (-2, 0, 1, 3, 4)])
            self.takes(("write", 1, 2, ask(1)))
            self.refuses(*[("write", 1, place, ask(2)) for place in (1, 2, 4)])

    def test_a_line_that_began_with_entries(self):
        self.begin(*settled_line(), *elected(1, 2, 2))
        self.refuses(("write", 2, 1, START), ("write", 2, 2, START), ("write", 2, 4, START))
        self.takes(("write", 2, 3, START))
        self.assertEqual(self.bench.line(2), [ONE, TWO, (2, START)])

    def test_a_start_is_the_first_of_a_term_and_only_that(self):
        for text in ALL_RULES:
            self.begin(*elected(0, 1, 1), text=text)
            self.refuses(("write", 1, 1, ask(1)), ("write", 1, 1, ("roll", 7, 3)))
            self.takes(("write", 1, 1, START))
            self.refuses(("write", 1, 2, START))
            self.would_take(("write", 1, 2, ask(1)), ("write", 1, 2, ("roll", 7, 3)))
            self.takes(("write", 1, 2, ask(1)), ("told", 1, 1, 2, 0), *elected(1, 2, 2))
            self.refuses(("write", 2, 3, ask(1)), ("write", 2, 3, ("roll", 7, 3)))
            self.takes(("write", 2, 3, START))
            self.refuses(("write", 2, 4, START))

    def test_the_chair_has_it_and_no_other(self):
        self.begin(*elected(0, 1, 1), ("told", 2, 1, 0, 0), ("write", 1, 1, START))
        self.assertEqual([self.bench.row_of(h) for h in range(3)], [[ONE], [], []])
        self.assertEqual(self.bench.line(1), [ONE])

    def test_the_line_of_another_term_does_not_grow(self):
        self.begin(*elected(0, 1, 1), ("write", 1, 1, START), ("told", 1, 1, 1, 0), *elected(1, 2, 2))
        self.takes(("write", 1, 2, ask(1)), ("write", 2, 2, START))
        self.assertEqual((self.bench.line(1), self.bench.line(2)), ([ONE, TWO], [ONE, (2, START)]))

    def test_an_ask_may_stand_twice(self):
        self.begin(*settled_line(), *written(1, 3, ask(1), ask(1, ("put", "b", 10 ** 50))))
        self.assertEqual(len(self.bench.line(1)), 4)


class RollTest(BenchTest):
    def test_behind_a_single_roll(self):
        for text in ALL_RULES:
            self.begin(*elected(0, 1, 1), ("write", 1, 1, START), text=text)
            self.would_take(*[("write", 1, 2, ("roll", 7, two)) for two in (1, 7, 8, 59, 1 << 59)])
            self.refuses(*[("write", 1, 2, ("roll", one, two)) for one in (1, 3, 8, 15) for two in (0, 7, one)])
            self.refuses(("write", 1, 2, ("roll", 7, 0)))

    def test_behind_a_double_roll(self):
        for text in ALL_RULES:
            self.begin(*elected(0, 1, 1), *written(1, 1, START, ("roll", 7, 3)), ("told", 1, 1, 2, 0), text=text)
            self.takes(("settle", 1, 2, 3))
            self.refuses(*[("write", 1, 3, ("roll", one, two)) for one in (3, 7, 1) for two in (7, 3, 1)])
            self.refuses(("write", 1, 3, ("roll", 7, 0)), ("write", 1, 3, ("roll", 1, 0)))
            self.takes(("write", 1, 3, ("roll", 3, 0)))

    def test_a_double_roll_that_is_not_settled(self):
        for text in ALL_RULES:
            self.begin(*elected(0, 1, 1), *written(1, 1, START, ("roll", 7, 3)), ("told", 1, 1, 2, 0), text=text)
            self.refuses(("write", 1, 3, ("roll", 3, 0)))
            self.takes(("settle", 1, 1, 3))
            self.refuses(("write", 1, 3, ("roll", 3, 0)))
            self.takes(("write", 1, 3, ask(1)), ("settle", 1, 2, 3), ("write", 1, 4, ("roll", 3, 0)))

    def test_a_single_roll_that_is_not_settled(self):
        for text in ALL_RULES:
            self.begin(*elected(0, 1, 1), *written(1, 1, START, ("roll", 7, 3)), ("told", 1, 1, 2, 0), text=text)
            self.takes(("settle", 1, 2, 3), ("write", 1, 3, ("roll", 3, 0)))
            self.refuses(("write", 1, 4, ("roll", 3, 7)))
            self.takes(("told", 1, 1, 3, 0))
            self.refuses(("write", 1, 4, ("roll", 3, 7)))
            self.takes(("settle", 1, 3, 3))
            self.refuses(("write", 1, 4, ("roll", 7, 3)), ("write", 1, 4, ("roll", 3, 0)))
            self.takes(("write", 1, 4, ("roll", 3, 7)))

    def test_the_first_roll_is_settled_from_the_first(self):
        self.begin(*elected(0, 1), ("write", 1, 1, START), S=1)
        self.assertEqual(self.bench.mark(1), 0)
        self.takes(("write", 1, 2, ("roll", 1, 6)))

    def test_a_roll_that_a_lesser_term_settled(self):
        for text in ALL_RULES:
            double = elected(0, 1, 1) + written(1, 1, START, ("roll", 7, 3)) + [("told", 1, 1, 2, 0)]
            self.begin(*double, ("settle", 1, 2, 3), *elected(1, 2, 0), ("write", 2, 3, START), text=text)
            self.assertEqual(self.bench.mark(2), 0)
            self.takes(("write", 2, 4, ("roll", 3, 0)))
            self.begin(*double, ("settle", 1, 1, 3), *elected(1, 2, 0), ("write", 2, 3, START), text=text)
            self.refuses(("write", 2, 4, ("roll", 3, 0)))

    def test_a_roll_that_a_greater_term_alone_settled(self):
        self.begin(*elected(0, 1, 1), *written(1, 1, START, ("roll", 7, 7)), ("told", 1, 1, 2, 0))
        self.takes(*elected(1, 2, 2), ("write", 2, 3, START), ("told", 2, 2, 3, 0), ("settle", 2, 3, 6))
        self.refuses(("write", 1, 3, ("roll", 7, 0)))
        self.would_take(("write", 2, 4, ("roll", 7, 0)))

    def test_it_is_in_force_as_soon_as_it_stands(self):
        self.begin(*elected(0, 1, 1), ("write", 1, 1, START), ("told", 1, 1, 1, 0))
        self.would_take(("settle", 1, 1, 3))
        self.takes(("write", 1, 2, ("roll", 7, 24)))
        self.refuses(("settle", 1, 1, 3))
        self.takes(("told", 3, 1, 1, 0), ("told", 4, 1, 1, 0))
        self.takes(("settle", 1, 1, 27))

    def test_a_chair_that_is_no_member_goes_on(self):
        self.begin(*elected(0, 1, 1), *written(1, 1, START, ("roll", 7, 6)), ("told", 1, 1, 2, 0), ("told", 2, 1, 2, 0))
        self.takes(("settle", 1, 2, 6), ("write", 1, 3, ("roll", 6, 0)), ("told", 1, 1, 3, 0))
        self.refuses(("settle", 1, 3, 3))
        self.takes(("told", 2, 1, 3, 0), ("settle", 1, 3, 7), ("write", 1, 4, ask(1)))


class ToldTest(BenchTest):
    def line(self, text="once best own most"):
        self.begin(*elected(0, 1, 1), *written(1, 1, START, ask(1)), ("beat", 1, 1), ("beat", 1, 2), text=text)

    def test_places_and_beats(self):
        for text in ALL_RULES:
            self.line(text)
            self.would_take(*[("told", 2, 1, place, beat) for place in (0, 1, 2) for beat in (0, 1, 2)])
            self.refuses(("told", 2, 1, 3, 1), ("told", 2, 1, -1, 1), ("told", 2, 1, GREAT_TERM, 1))
            self.refuses(("told", 2, 1, 1, 3), ("told", 2, 1, 1, -1), ("told", 2, 1, 1, GREAT_TERM))

    def test_without_a_beat(self):
        self.begin(*elected(0, 1, 1))
        self.refuses(("told", 2, 1, 0, 1), ("told", 2, 1, 1, 0))
        self.takes(("told", 2, 1, 0, 0))

    def test_the_term_has_a_chair(self):
        for text in ALL_RULES:
            self.begin(("vote", 0, 1, 0), ("vote", 1, 1, 0), text=text)
            self.refuses(("told", 2, 1, 0, 0), ("told", 1, 1, 0, 0), ("told", 2, 2, 0, 0))
            self.takes(("chair", 0, 1, 3))
            self.refuses(("told", 2, 2, 0, 0))
            self.would_take(("told", 2, 1, 0, 0), ("told", 1, 1, 0, 0))

    def test_the_chair_is_another_hand(self):
        for text in ALL_RULES:
            self.line(text)
            self.refuses(("told", 0, 1, 0, 0), ("told", 0, 1, 2, 2))

    def test_the_term_is_no_less_than_the_hands(self):
        for text in ALL_RULES:
            self.line(text)
            self.takes(("vote", 2, 3, 2), ("vote", 1, 2, 1))
            self.refuses(("told", 2, 1, 1, 1), ("told", 1, 1, 1, 1))
            self.takes(("vote", 3, 1, 0), ("told", 3, 1, 1, 1))

    def test_it_stays_at_the_term(self):
        self.line()
        self.takes(("told", 59, 1, 0, 1))
        self.knows(59, 1)
        self.assertEqual(self.bench.votes_of(59, 1), 0)
        self.refuses(("vote", 59, 1, 59))
        self.takes(("vote", 59, 1, 0))

    def test_a_row_that_has_fewer_becomes_the_lines(self):
        self.line()
        for place, row in ((0, []), (1, [ONE]), (2, [ONE, TWO])):
            self.takes(("told", 2, 1, place, 0))
            self.knows(2, 1, row)

    def test_a_row_that_agrees_stays_with_all_it_has(self):
        self.line()
        self.takes(("told", 2, 1, 2, 0))
        for place in (2, 1, 0):
            self.takes(("told", 2, 1, place, 0))
            self.knows(2, 1, [ONE, TWO])

    def test_what_agrees_stays_though_the_line_has_it_otherwise_behind(self):
        self.line()
        self.takes(("told", 1, 1, 1, 0), ("told", 3, 1, 2, 0), *elected(1, 2, 2), ("write", 2, 2, START))
        self.takes(("told", 3, 2, 1, 0))
        self.knows(3, 2, [ONE, TWO])
        self.takes(("told", 3, 2, 2, 0))
        self.knows(3, 2, [ONE, (2, START)])

    def test_a_row_that_is_otherwise_is_cut_to_the_place(self):
        self.begin(*elected(0, 1, 1), *written(1, 1, START, ask(1), ask(2), ask(3)))
        self.takes(*elected(2, 2, 1), *written(2, 1, START, ask(9), ask(8)))
        self.takes(("told", 0, 2, 0, 0))
        self.knows(0, 2, [ONE, TWO, (1, ask(2)), (1, ask(3))])
        self.takes(("told", 0, 2, 2, 0))
        self.knows(0, 2, [(2, START), (2, ask(9))])
        self.takes(("told", 0, 2, 3, 0), ("told", 0, 2, 1, 0))
        self.knows(0, 2, [(2, START), (2, ask(9)), (2, ask(8))])

    def test_of_a_chair_that_stands_no_longer(self):
        for text in ALL_RULES:
            self.line(text)
            self.takes(("vote", 0, 9, 0), ("told", 2, 1, 2, 2))
            self.knows(2, 1, [ONE, TWO])


class SettleTest(BenchTest):
    def line(self, text="once best own most", S=7, last=3):
        self.begin(*elected(0, 1, 1, 2), *written(1, 1, START, ask(1), ask(2), ask(3)), S=S, text=text)
        self.takes(("told", 1, 1, last, 0))

    def test_places_behind_the_mark(self):
        for text in ALL_RULES:
            self.line(text)
            self.would_take(*[("settle", 1, place, 3) for place in (1, 2, 3)])
            self.refuses(("settle", 1, 0, 3), ("settle", 1, -1, 3))
            self.takes(("settle", 1, 2, 3))
            self.refuses(*[("settle", 1, place, 3) for place in (2, 1, 0, -1)])
            self.takes(("settle", 1, 3, 3))

    def test_places_of_the_line_alone(self):
        self.begin(*elected(0, 1), ("write", 1, 1, START), S=1)
        self.refuses(("settle", 1, 2, 1), ("settle", 1, 3, 1))
        self.takes(("settle", 1, 1, 1))

    def test_each_of_the_hands_told_of_the_place(self):
        for text in ALL_RULES:
            self.line(text)
            self.refuses(("settle", 1, 4, 3), ("settle", 1, 1, 7), ("settle", 1, 1, 5), ("settle", 1, 1, 3 | 1 << 59))
            self.takes(("told", 2, 1, 2, 0))
            self.would_take(("settle", 1, 2, 7), ("settle", 1, 2, 6), ("settle", 1, 3, 3))
            self.refuses(("settle", 1, 3, 7), ("settle", 1, 3, 6))
            self.takes(("told", 2, 1, 4, 0), ("told", 2, 1, 0, 0))
            self.would_take(("settle", 1, 4, 5), ("settle", 1, 3, 7))

    def test_the_chair_has_its_line_without_a_told(self):
        self.begin(*elected(0, 1), *written(1, 1, START, ask(1)), S=1)
        self.takes(("settle", 1, 2, 1))

    def test_tolds_of_other_terms_do_not_count(self):
        self.begin(*settled_line(), ("told", 2, 1, 2, 0), *elected(1, 2, 2), ("write", 2, 3, START))
        self.refuses(("settle", 2, 3, 6))
        self.takes(("told", 2, 2, 2, 0))
        self.refuses(("settle", 2, 3, 6))
        self.takes(("told", 2, 2, 3, 0), ("settle", 2, 3, 6))

    def test_tolds_count_though_the_hand_went_on(self):
        self.line()
        self.takes(("vote", 1, 5, 1))
        self.takes(("settle", 1, 3, 3))

    def test_by_own_the_entry_is_of_the_term(self):
        for text in ALL_RULES:
            self.begin(*elected(0, 1, 1), *written(1, 1, START, ask(1)), ("told", 1, 1, 2, 0), text=text)
            self.takes(*elected(1, 2, 2), ("write", 2, 3, START), ("told", 2, 2, 3, 0))
            (self.refuses if "own" in text else self.would_take)(("settle", 2, 1, 6), ("settle", 2, 2, 6))
            self.takes(("settle", 2, 3, 6))

    def test_the_hands_win(self):
        for text in ALL_RULES:
            self.line(text, S=15)
            (self.would_take if "half" in text else self.refuses)(("settle", 1, 3, 3))
            self.refuses(("settle", 1, 3, 1), ("settle", 1, 3, 2), ("settle", 1, 3, 0))
            self.takes(("told", 3, 1, 3, 0), ("settle", 1, 3, 11))

    def test_the_hands_win_both_parts(self):
        for text in ALL_RULES:
            self.begin(*elected(0, 1, 1), *written(1, 1, START, ("roll", 7, 56)), text=text)
            self.takes(*[("told", h, 1, 2, 0) for h in (1, 3, 4)])
            self.refuses(("settle", 1, 2, 3), ("settle", 1, 2, 11), ("settle", 1, 2, 25), ("settle", 1, 2, 24))
            self.takes(("settle", 1, 2, 27))

    def test_hands_that_are_no_members(self):
        self.line()
        self.takes(("told", 5, 1, 3, 0))
        self.refuses(("settle", 1, 3, 33))
        self.takes(("settle", 1, 3, 35))


if __name__ == "__main__":
    unittest.main()
