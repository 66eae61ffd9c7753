"""Beats, answers and looks on a bench: what is taken, and what is refused for each single thing."""

import unittest

from tests.benching import ALL_RULES, BenchTest, elected, settled_line, written
from tests.making import GREAT, GREAT_TERM, START, ask


class BeatTest(BenchTest):
    def test_each_is_one_more(self):
        for text in ALL_RULES:
            self.begin(*elected(0, 1, 1), text=text)
            for beat in range(1, 4):
                self.refuses(*[("beat", 1, other) for other in (-1, 0, beat - 1, beat + 1, beat + 2)])
                self.takes(("beat", 1, beat))

    def test_each_term_has_its_own(self):
        self.begin(*elected(0, 1, 1), ("beat", 1, 1), ("beat", 1, 2), *elected(2, GREAT_TERM, 1))
        self.refuses(("beat", GREAT_TERM, 3), ("beat", GREAT_TERM, 2))
        self.takes(("beat", GREAT_TERM, 1), ("beat", 1, 3))


class AnswerTest(BenchTest):
    ORDERS = (("put", "b", 4), ("add", "b", 5), ("swap", "b", 9, 2), ("swap", "b", 9, 2), ("add", "b", GREAT))
    ANSWERS = (0, 9, 1, 0, 2 + GREAT)

    def line(self, text="once best own most", settled=6):
        asks = [ask(number, order, who=8) for number, order in enumerate(self.ORDERS)]
        self.begin(*elected(0, 1, 1), *written(1, 1, START, *asks), ("told", 1, 1, 6, 0), text=text)
        self.takes(("settle", 1, settled, 3))

    def test_each_kind_of_order(self):
        for text in ALL_RULES:
            self.line(text)
            for number, answer in enumerate(self.ANSWERS):
                self.would_take(("answer", 1, 8, number, number + 2, answer))
                self.refuses(*[("answer", 1, 8, number, number + 2, answer + k) for k in (-GREAT, -1, 1, GREAT)])

    def test_an_answer_may_be_told_again(self):
        self.line()
        self.takes(*[("answer", 1, 8, 1, 3, 9)] * 3)

    def test_what_is_not_settled(self):
        for text in ALL_RULES:
            self.line(text, settled=3)
            self.would_take(("answer", 1, 8, 0, 2, 0), ("answer", 1, 8, 1, 3, 9))
            self.refuses(("answer", 1, 8, 2, 4, 1), ("answer", 1, 8, 3, 5, 0), ("answer", 1, 8, 4, 6, 2 + GREAT))

    def test_places_at_which_there_is_no_ask(self):
        self.line()
        self.refuses(*[("answer", 1, 8, 0, place, 0) for place in (-6, -5, -1, 0, 1, 7, 8, GREAT)])
        self.refuses(*[("answer", 1, 8, 4, place, answer) for place in (0, -6, 7) for answer in (GREAT, 2 + GREAT)])
        self.begin(*elected(0, 1, 1), *written(1, 1, START, ("roll", 7, 3)), ("told", 1, 1, 2, 0), ("settle", 1, 2, 3))
        self.refuses(("answer", 1, 7, 3, 2, 0), ("answer", 1, 7, 3, 1, 0))

    def test_another_who_or_number(self):
        self.line()
        self.refuses(("answer", 1, 7, 1, 3, 9), ("answer", 1, 8, 0, 3, 9), ("answer", 1, 8, 2, 3, 9))
        self.refuses(("answer", 1, 8, 1, 2, 9), ("answer", 1, 8, 1, 4, 9))

    def test_an_ask_that_stands_twice_has_the_first_answer(self):
        for text in ALL_RULES:
            twice = written(1, 1, START, ask(1, ("put", "a", 5)), ask(1, ("put", "a", 7)), ask(2, ("add", "a", 1)))
            self.begin(*elected(0, 1, 1), *twice, ("told", 1, 1, 4, 0), ("settle", 1, 4, 3), text=text)
            self.takes(("answer", 1, 0, 1, 2, 0), ("answer", 1, 0, 1, 3, 0), ("answer", 1, 0, 2, 4, 6))
            self.refuses(("answer", 1, 0, 1, 3, 5), ("answer", 1, 0, 1, 3, 7), ("answer", 1, 0, 2, 4, 8))

    def test_whoever_and_whatever_number(self):
        what = ask(-GREAT, ("add", "abcdefgh", -GREAT), who=-3)
        self.begin(*elected(0, 1, 1), *written(1, 1, START, what), ("told", 1, 1, 2, 0), ("settle", 1, 2, 3))
        self.takes(("answer", 1, -3, -GREAT, 2, -GREAT))

    def test_at_a_place_that_a_lesser_term_settled(self):
        for text in ALL_RULES:
            self.begin(*settled_line(), ("write", 1, 3, ask(2)), ("told", 1, 1, 3, 0), *elected(1, 2, 2), text=text)
            self.takes(("answer", 2, 0, 1, 2, 1))
            self.refuses(("answer", 2, 0, 2, 3, 2), ("answer", 3, 0, 1, 2, 1))
            self.takes(("write", 2, 4, START))
            self.takes(("answer", 2, 0, 1, 2, 1))
            self.refuses(("answer", 2, 0, 2, 3, 2))
            self.takes(("told", 2, 2, 4, 0), ("settle", 2, 4, 6), ("answer", 2, 0, 2, 3, 2))


class LookTest(BenchTest):
    def line(self, *papers, text="once best own most"):
        self.begin(*elected(0, 1, 1), *written(1, 1, START, ask(1), ask(2)), *papers, text=text)

    def test_the_beat_is_the_chairs(self):
        for text in ALL_RULES:
            self.line(("beat", 1, 1), ("beat", 1, 2), text=text)
            self.refuses(*[("look", 1, beat, 5, "a", 1) for beat in (-1, 0, 1, 3)])
            self.takes(("look", 1, 2, 5, "a", 1))

    def test_the_beat_is_one_or_more(self):
        for text in ALL_RULES:
            self.line(text=text)
            self.refuses(("look", 1, 0, 5, "a", 1), ("look", 1, 1, 5, "a", 1))

    def test_no_hand_told_of_the_beat(self):
        for text in ALL_RULES:
            for h in (1, 2, 59):
                self.line(("beat", 1, 1), ("told", h, 1, 0, 1), text=text)
                self.refuses(("look", 1, 1, 5, "a", 1))
                self.takes(("beat", 1, 2), ("told", h, 1, 3, 1), ("look", 1, 2, 5, "a", 1))

    def test_a_told_of_a_lesser_beat_behind_one_of_the_beat(self):
        self.line(("beat", 1, 1), ("beat", 1, 2), ("told", 1, 1, 0, 2), ("told", 1, 1, 3, 1))
        self.refuses(("look", 1, 2, 5, "a", 1))

    def test_tolds_of_other_terms_are_not_in_the_way(self):
        self.begin(*settled_line(), *elected(1, 2, 2), ("write", 2, 3, START), ("beat", 2, 1))
        self.takes(("look", 2, 1, 5, "a", 3))
        self.begin(*elected(0, 1, 1), ("write", 1, 1, START), ("beat", 1, 1), *elected(2, 2, 1), ("beat", 2, 1))
        self.takes(("told", 1, 2, 0, 1), ("look", 1, 1, 5, "a", 1))

    def test_no_look_has_the_beat(self):
        for text in ALL_RULES:
            self.line(("beat", 1, 1), ("look", 1, 1, 5, "a", 1), text=text)
            self.refuses(("look", 1, 1, 5, "a", 1), ("look", 1, 1, 6, "a", 1), ("look", 1, 1, 5, "b", 1))
            self.takes(("beat", 1, 2), ("look", 1, 2, 5, "a", 1))

    def test_no_look_that_was_seen_has_the_beat(self):
        self.begin(*elected(0, 1), ("write", 1, 1, START), ("settle", 1, 1, 1), ("beat", 1, 1), S=1)
        self.takes(("look", 1, 1, 5, "a", 1), ("seen", 1, 1, 5, "a", 1, 0, 1))
        self.refuses(("look", 1, 1, 5, "a", 1), ("look", 1, 1, 6, "b", 1))

    def test_looks_of_other_terms_are_not_in_the_way(self):
        self.begin(*elected(0, 1, 1), ("write", 1, 1, START), ("beat", 1, 1), ("look", 1, 1, 5, "a", 1))
        self.takes(*elected(2, 2, 1), ("write", 2, 1, START), ("beat", 2, 1), ("look", 2, 1, 5, "a", 1))

    def test_the_line_has_an_entry_of_the_term(self):
        for text in ALL_RULES:
            self.begin(*settled_line(), *elected(1, 2, 2), ("beat", 2, 1), text=text)
            self.refuses(*[("look", 2, 1, 5, "a", place) for place in range(4)])
            self.takes(("write", 2, 3, START), ("look", 2, 1, 5, "a", 3))

    def test_the_place_is_that_of_the_first_entry_of_the_term(self):
        self.line(("beat", 1, 1))
        self.refuses(*[("look", 1, 1, 5, "a", place) for place in (-1, 0, 2, 3, 4)])
        self.takes(("look", 1, 1, 5, "a", 1))

    def test_the_place_is_the_terms_own_mark_where_that_is_greater(self):
        for text in ALL_RULES:
            self.line(("told", 1, 1, 3, 0), ("settle", 1, 2, 3), ("beat", 1, 1), text=text)
            self.refuses(*[("look", 1, 1, 5, "a", place) for place in (0, 1, 3)])
            self.takes(("look", 1, 1, 5, "a", 2))

    def test_a_lesser_terms_mark_is_not_it(self):
        for text in ALL_RULES:
            self.begin(*settled_line(), *elected(1, 2, 2), *written(2, 3, START, ask(2)), ("beat", 2, 1), text=text)
            self.refuses(("look", 2, 1, 5, "a", 2), ("look", 2, 1, 5, "a", 4))
            self.takes(("look", 2, 1, 5, "a", 3))


class SeenTest(BenchTest):
    """The look of beat 1 waits for place 2; hand 1 told of it, hand 2 of nothing."""

    def line(self, text="once best own most", S=7, heard=1):
        self.begin(*elected(0, 1, 1, 2), *written(1, 1, START, ask(1), ask(2), ask(3)), S=S, text=text)
        self.takes(("told", 1, 1, 4, 0), ("told", 3, 1, 4, 0), ("settle", 1, 2, 11))
        self.takes(("beat", 1, 1), ("look", 1, 1, 5, "a", 2), ("told", 1, 1, 4, heard))

    def test_by_the_hands_that_told_of_the_beat(self):
        for text in ALL_RULES:
            self.line(text)
            self.would_take(("seen", 1, 1, 5, "a", 2, 1, 3))
            self.takes(("told", 2, 1, 0, 1))
            self.would_take(("seen", 1, 1, 5, "a", 2, 1, 7), ("seen", 1, 1, 5, "a", 2, 1, 6))

    def test_hands_that_did_not(self):
        for text in ALL_RULES:
            self.line(text)
            self.refuses(*[("seen", 1, 1, 5, "a", 2, 1, hands) for hands in (5, 6, 7, 11, 3 | 1 << 59)])
            self.line(text, heard=0)
            self.refuses(("seen", 1, 1, 5, "a", 2, 1, 3))

    def test_a_greater_beat_counts_and_a_lesser_one_does_not(self):
        self.line(heard=0)
        self.takes(("beat", 1, 2), ("look", 1, 2, 5, "a", 2), ("beat", 1, 3), ("told", 1, 1, 4, 1))
        self.would_take(("seen", 1, 1, 5, "a", 2, 1, 3))
        self.refuses(("seen", 1, 2, 5, "a", 2, 1, 3))
        self.takes(("told", 2, 1, 0, 3))
        self.would_take(("seen", 1, 2, 5, "a", 2, 1, 5), ("seen", 1, 1, 5, "a", 2, 1, 7))
        self.refuses(("seen", 1, 2, 5, "a", 2, 1, 7))

    def test_tolds_of_another_term_do_not_count(self):
        self.begin(*settled_line(), *elected(1, 2, 2, 0), ("write", 2, 3, START), ("told", 0, 2, 3, 0))
        self.takes(("settle", 2, 3, 3), ("beat", 2, 1), ("look", 2, 1, 5, "a", 3))
        self.refuses(("seen", 2, 1, 5, "a", 3, 1, 3))
        self.takes(("told", 0, 2, 0, 1), ("seen", 2, 1, 5, "a", 3, 1, 3))

    def test_the_hands_win(self):
        for text in ALL_RULES:
            self.line(text, S=15)
            (self.would_take if "half" in text else self.refuses)(("seen", 1, 1, 5, "a", 2, 1, 3))
            self.refuses(*[("seen", 1, 1, 5, "a", 2, 1, hands) for hands in (0, 1, 2)])
            self.takes(("told", 3, 1, 0, 1), ("told", 59, 1, 0, 1), ("seen", 1, 1, 5, "a", 2, 1, 11 | 1 << 59))

    def test_the_hands_win_both_parts(self):
        for text in ALL_RULES:
            self.line(text)
            self.takes(("write", 1, 5, ("roll", 7, 56)), ("told", 3, 1, 0, 1))
            self.refuses(("seen", 1, 1, 5, "a", 2, 1, 3), ("seen", 1, 1, 5, "a", 2, 1, 11))
            self.takes(("told", 4, 1, 0, 1), ("seen", 1, 1, 5, "a", 2, 1, 27))

    def test_a_look_of_that_term_beat_who_and_name(self):
        for text in ALL_RULES:
            self.line(text)
            self.takes(("beat", 1, 2), ("told", 1, 1, 4, 2))
            self.refuses(("seen", 2, 1, 5, "a", 2, 1, 3))
            self.refuses(("seen", 1, 2, 5, "a", 2, 1, 3), ("seen", 1, 0, 5, "a", 2, 1, 3))
            self.refuses(("seen", 1, 1, 6, "a", 2, 1, 3), ("seen", 1, 1, 5, "b", 2, 0, 3))
            self.takes(("seen", 1, 1, 5, "a", 2, 1, 3))

    def test_no_look_is_seen_twice(self):
        for text in ALL_RULES:
            self.line(text)
            self.takes(("seen", 1, 1, 5, "a", 2, 1, 3))
            self.refuses(("seen", 1, 1, 5, "a", 2, 1, 3), ("seen", 1, 1, 5, "a", 2, 1, 1))
            self.takes(("settle", 1, 4, 3))
            self.refuses(("seen", 1, 1, 5, "a", 4, 3, 3))

    def test_looks_may_be_seen_in_any_order(self):
        self.line(heard=0)
        self.takes(("beat", 1, 2), ("look", 1, 2, 6, "b", 2), ("told", 1, 1, 4, 2))
        self.takes(("seen", 1, 2, 6, "b", 2, 0, 3), ("seen", 1, 1, 5, "a", 2, 1, 3))

    def test_places_from_the_looks_to_the_mark(self):
        for text in ALL_RULES:
            self.line(text)
            self.refuses(("seen", 1, 1, 5, "a", 1, 0, 3), ("seen", 1, 1, 5, "a", 0, 0, 3))
            self.refuses(("seen", 1, 1, 5, "a", 3, 2, 3))
            self.takes(("settle", 1, 3, 3))
            self.would_take(("seen", 1, 1, 5, "a", 2, 1, 3), ("seen", 1, 1, 5, "a", 3, 2, 3))
            self.refuses(("seen", 1, 1, 5, "a", 4, 3, 3), ("seen", 1, 1, 5, "a", 5, 3, 3))

    def test_a_look_that_waits_for_a_start_that_is_not_settled(self):
        for text in ALL_RULES:
            self.begin(*settled_line(), *elected(1, 2, 2), ("write", 2, 3, START), ("beat", 2, 1), text=text)
            self.takes(("look", 2, 1, 5, "a", 3), ("told", 2, 2, 3, 1))
            self.refuses(("seen", 2, 1, 5, "a", 2, 1, 6), ("seen", 2, 1, 5, "a", 3, 1, 6))
            self.takes(("settle", 2, 3, 6), ("seen", 2, 1, 5, "a", 3, 1, 6))

    def test_the_value_is_that_of_the_name_at_the_place(self):
        for text in ALL_RULES:
            self.line(text)
            self.takes(("settle", 1, 4, 3), ("beat", 1, 2), ("look", 1, 2, 5, "b", 4), ("told", 1, 1, 0, 2))
            for place, value in ((2, 1), (3, 2), (4, 3)):
                self.would_take(("seen", 1, 1, 5, "a", place, value, 3))
                self.refuses(*[("seen", 1, 1, 5, "a", place, value + k, 3) for k in (-1, 1, GREAT)])
            self.refuses(("seen", 1, 2, 5, "b", 4, 3, 3))
            self.takes(("seen", 1, 2, 5, "b", 4, 0, 3))

    def test_of_great_terms_and_beats_behind_many(self):
        term = GREAT_TERM
        self.begin(*elected(0, term), *written(term, 1, START, ask(1, ("put", "a", GREAT))), S=1)
        self.takes(("settle", term, 2, 1))
        for beat in range(1, 30):
            self.takes(("beat", term, beat), ("look", term, beat, GREAT, "a", 2))
        for beat in range(29, 0, -1):
            self.takes(("seen", term, beat, GREAT, "a", 2, GREAT, 1))
            self.refuses(("seen", term, beat, GREAT, "a", 2, GREAT, 1))


if __name__ == "__main__":
    unittest.main()
