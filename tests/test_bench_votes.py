"""Votes and chairs on a bench: what is taken, and what is refused for each single thing; and papers of no form."""

import unittest

from tests.benching import ALL_RULES, BenchTest, elected, settled_line, with_rules, written
from tests.making import GREAT_TERM, START, ask

NINE = (
    ("vote", 2, 1, 0), ("chair", 0, 1, 3), ("write", 1, 3, ask(2)), ("beat", 1, 3), ("told", 2, 1, 2, 2),
    ("settle", 1, 2, 3), ("answer", 1, 0, 1, 2, 1), ("look", 1, 2, 5, "a", 1), ("seen", 1, 1, 5, "a", 1, 0, 3),
)


class FormTest(BenchTest):
    """A bench at which eight of the nine papers may be taken; a chair paper may be behind its votes alone."""

    def ready(self):
        self.begin(*elected(0, 1, 1), *written(1, 1, START, ask(1)), ("beat", 1, 1), ("look", 1, 1, 5, "a", 1))
        self.takes(("told", 1, 1, 2, 1), ("settle", 1, 1, 3), ("beat", 1, 2))

    def test_the_nine_kinds_are_taken(self):
        self.begin(("vote", 0, 1, 0), ("vote", 1, 1, 0))
        self.would_take(NINE[0], NINE[1])
        self.ready()
        self.would_take(*[paper for paper in NINE if paper[0] not in ("chair", "answer")])
        self.takes(("settle", 1, 2, 3))
        self.would_take(NINE[6])

    def test_another_number_of_parts(self):
        self.ready()
        for paper in NINE:
            self.refuses(paper[:-1], paper + (0,), paper + (paper[-1],), paper[:1], paper[:2])
        self.begin(("vote", 0, 1, 0), ("vote", 1, 1, 0))
        self.refuses(NINE[1][:-1], NINE[1] + (0,), ())

    def test_another_word_first(self):
        self.ready()
        for paper in NINE:
            for word in ("", "votes", "Vote", " vote", "tell", "please", "late", "start", "ask", "roll"):
                self.refuses((word,) + paper[1:])

    def test_terms_are_from_one_on(self):
        for S, text in [(1, text) for text in ALL_RULES]:
            self.begin(S=S, text=text)
            for term in (0, -1, -GREAT_TERM):
                self.refuses(
                    ("vote", 0, term, 0), ("vote", 1, term, 0), ("chair", 0, term, 1), ("chair", 0, term, 0),
                    ("write", term, 1, START), ("beat", term, 1), ("told", 1, term, 0, 0), ("settle", term, 1, 1),
                    ("answer", term, 0, 1, 1, 1), ("look", term, 0, 5, "a", 0), ("seen", term, 0, 5, "a", 0, 0, 1),
                )
            self.takes(("vote", 0, 1, 0))

    def test_the_value_is_the_number_of_papers_taken(self):
        self.begin()
        papers = settled_line()
        for count, paper in enumerate(papers):
            self.refuses(("beat", 9, 1), ("halt", 1), (), paper[:-1])
            self.takes(paper)
            self.assertEqual(self.count, count + 1)
        self.refuses(*papers[:-3])

    def test_what_is_refused_once_may_be_taken_later(self):
        self.begin()
        papers = settled_line()
        for k, paper in enumerate(papers):
            self.refuses(*[later for later in papers[k + 1:] if later[0] in ("chair", "write", "told", "settle")])
            self.takes(paper)


class AskingTest(BenchTest):
    """A hand that votes for itself."""

    def test_the_term_is_greater_than_its_own(self):
        for text in ALL_RULES:
            self.begin(("vote", 0, 3, 0), text=text)
            self.refuses(("vote", 0, 1, 0), ("vote", 0, 2, 0), ("vote", 0, 3, 0))
            self.would_take(("vote", 0, 4, 0), ("vote", 0, GREAT_TERM, 0))

    def test_a_term_that_it_has_by_a_told(self):
        for text in ALL_RULES:
            self.begin(*elected(0, 3, 1), ("told", 2, 3, 0, 0), text=text)
            self.refuses(("vote", 2, 3, 2), ("vote", 2, 2, 2))
            self.would_take(("vote", 2, 4, 2))

    def test_what_it_asked_with_is_the_end_of_its_row_then(self):
        self.begin(*settled_line(), ("vote", 1, 2, 1))
        self.assertEqual(self.bench.world()[2], ((0, 1, (0, 0)), (1, 2, (1, 2))))
        self.takes(("vote", 2, 2, 1), ("chair", 1, 2, 6), ("write", 2, 3, START))
        self.assertEqual(self.bench.world()[2], ((0, 1, (0, 0)), (1, 2, (1, 2))))

    def test_hands_that_are_no_members_may_ask_too(self):
        self.begin(("vote", 59, 1, 59), S=7)
        self.assertEqual(self.bench.votes_of(59, 1), 1 << 59)


class VoteTest(BenchTest):
    def test_the_term_is_no_less_than_the_hands(self):
        for text in ALL_RULES:
            for own, may in ((1, True), (3, True), (4, False), (GREAT_TERM, False)):
                self.begin(("vote", 0, 3, 0), *elected(2, own, 3), ("told", 1, own, 0, 0), S=12, text=text)
                (self.would_take if may else self.refuses)(("vote", 1, 3, 0))

    def test_by_once_a_hand_votes_once_in_a_term(self):
        for text in ALL_RULES:
            self.begin(("vote", 0, 1, 0), ("vote", 2, 1, 2), ("vote", 1, 1, 0), text=text)
            again = (("vote", 1, 1, 2), ("vote", 0, 1, 2), ("vote", 2, 1, 0))
            (self.refuses if "once" in text else self.would_take)(*again)

    def test_by_free_none_is_voted_for_twice(self):
        for text in with_rules("free"):
            self.begin(("vote", 0, 1, 0), ("vote", 2, 1, 2), ("vote", 1, 1, 0), ("vote", 1, 1, 2), text=text)
            self.refuses(("vote", 1, 1, 0), ("vote", 1, 1, 2))
            self.takes(("vote", 0, 1, 2))
            self.refuses(("vote", 0, 1, 2), ("vote", 0, 1, 0))

    def test_votes_of_other_terms_do_not_count(self):
        for text in ALL_RULES:
            self.begin(("vote", 0, 1, 0), ("vote", 1, 1, 0), ("vote", 0, 2, 0), text=text)
            self.takes(("vote", 1, 2, 0))

    def test_whom_has_asked_in_the_term(self):
        for text in ALL_RULES:
            self.begin(("vote", 0, 3, 0), ("vote", 3, 5, 3), ("vote", 2, 5, 3), text=text)
            self.refuses(("vote", 1, 2, 0), ("vote", 1, 4, 0), ("vote", 1, 3, 2), ("vote", 1, 5, 0), ("vote", 1, 5, 2))
            self.would_take(("vote", 1, 3, 0), ("vote", 1, 5, 3))

    def test_by_best_the_end_asked_with_is_no_less(self):
        for text in ALL_RULES:
            self.begin(*settled_line(), ("vote", 2, 2, 2), text=text)
            (self.refuses if "best" in text else self.would_take)(("vote", 1, 2, 2), ("vote", 0, 2, 2))
            self.would_take(("vote", 3, 2, 2))

    def test_ends_are_held_as_tuples(self):
        for asked_place, own_place, may in ((1, 1, True), (2, 1, True), (1, 2, False)):
            self.begin(*elected(0, 1, 1), *written(1, 1, START, ask(1)))
            self.takes(("told", 2, 1, asked_place, 0), ("told", 1, 1, own_place, 0), ("vote", 2, 2, 2))
            (self.would_take if may else self.refuses)(("vote", 1, 2, 2))
        self.begin(*elected(0, 1, 1), *written(1, 1, START, ask(1), ask(2)), *elected(2, 2, 1), ("write", 2, 1, START))
        self.takes(("vote", 2, 3, 2))
        self.would_take(("vote", 0, 3, 2))
        self.begin(*elected(0, 1, 1), *written(1, 1, START, ask(1), ask(2)), *elected(2, 2, 1), ("write", 2, 1, START))
        self.takes(("vote", 0, 3, 0))
        self.refuses(("vote", 2, 3, 0))

    def test_the_row_counts_that_the_hand_has_now(self):
        self.begin(*elected(0, 1, 1), ("write", 1, 1, START), ("vote", 3, 2, 3))
        self.would_take(("vote", 1, 2, 3))
        self.takes(("told", 1, 1, 1, 0))
        self.refuses(("vote", 1, 2, 3))

    def test_the_end_counts_that_was_asked_with(self):
        for text in ALL_RULES:
            self.begin(*elected(0, 1, 1), ("write", 1, 1, START), ("told", 3, 1, 1, 0), ("vote", 2, 3, 2), text=text)
            self.takes(*elected(0, 3, 1), ("write", 3, 2, START), ("told", 2, 3, 2, 0))
            self.knows(2, 3, [(1, START), (3, START)])
            (self.refuses if "best" in text else self.would_take)(("vote", 3, 3, 2))
            self.would_take(("vote", 4, 3, 2), ("vote", 3, 3, 0))

    def test_the_term_becomes_the_hands(self):
        self.begin(("vote", 0, 3, 0), ("vote", 1, 3, 0))
        self.knows(0, 3)
        self.knows(1, 3)


class ChairTest(BenchTest):
    def test_by_the_votes_of_those_who_win(self):
        for text in ALL_RULES:
            self.begin(("vote", 0, 1, 0), ("vote", 1, 1, 0), ("vote", 2, 1, 0), text=text)
            self.would_take(("chair", 0, 1, 3), ("chair", 0, 1, 5), ("chair", 0, 1, 6), ("chair", 0, 1, 7))
            self.refuses(("chair", 0, 1, 0), ("chair", 0, 1, 1), ("chair", 0, 1, 2), ("chair", 0, 1, 4))

    def test_by_half_half_of_them_win(self):
        for text in ALL_RULES:
            self.begin(("vote", 0, 1, 0), ("vote", 1, 1, 0), S=15, text=text)
            (self.would_take if "half" in text else self.refuses)(("chair", 0, 1, 3))
            self.refuses(("chair", 0, 1, 1), ("chair", 0, 1, 2), ("chair", 0, 1, 0))

    def test_hands_that_are_no_members_count_for_nothing(self):
        for text in ALL_RULES:
            self.begin(("vote", 3, 1, 3), ("vote", 4, 1, 3), ("vote", 0, 1, 3), text=text)
            self.refuses(("chair", 3, 1, 24), ("chair", 3, 1, 25))
            self.takes(("vote", 1, 1, 3))
            self.would_take(("chair", 3, 1, 3), ("chair", 3, 1, 27))

    def test_each_of_the_voters_voted_for_it(self):
        for text in ALL_RULES:
            self.begin(("vote", 0, 1, 0), ("vote", 1, 1, 0), ("vote", 2, 1, 2), text=text)
            self.refuses(("chair", 0, 1, 7), ("chair", 0, 1, 11), ("chair", 0, 1, 3 | 1 << 59))
            self.would_take(("chair", 0, 1, 3))

    def test_each_of_the_voters_voted_in_that_term(self):
        for text in ALL_RULES:
            self.begin(("vote", 0, 1, 0), ("vote", 1, 1, 0), ("vote", 2, 1, 0), ("vote", 0, 2, 0), text=text)
            self.refuses(("chair", 0, 2, 3), ("chair", 0, 2, 7))
            self.takes(("vote", 1, 2, 0))
            self.refuses(("chair", 0, 2, 7))
            self.takes(("chair", 0, 2, 3))

    def test_by_free_a_voter_may_have_voted_for_others_too(self):
        for text in with_rules("free"):
            self.begin(("vote", 0, 1, 0), ("vote", 2, 1, 2), ("vote", 1, 1, 2), ("vote", 1, 1, 0), text=text)
            self.would_take(("chair", 0, 1, 3), ("chair", 2, 1, 6))

    def test_the_hands_term_is_that_term(self):
        for text in ALL_RULES:
            self.begin(("vote", 0, 1, 0), ("vote", 1, 1, 0), ("vote", 0, 2, 0), text=text)
            self.refuses(("chair", 0, 1, 3), ("chair", 0, 2, 3))
            self.begin(("vote", 0, 1, 0), ("vote", 1, 1, 0), text=text)
            self.refuses(("chair", 0, 2, 3))
            self.takes(("chair", 0, 1, 3))

    def test_a_term_that_it_has_by_a_told(self):
        for text in ALL_RULES:
            self.begin(("vote", 0, 1, 0), ("vote", 1, 1, 0), ("vote", 2, 2, 2), ("vote", 1, 2, 2), text=text)
            self.would_take(("chair", 0, 1, 3))
            self.takes(("chair", 2, 2, 6), ("told", 0, 2, 0, 0))
            self.refuses(("chair", 0, 1, 3))

    def test_it_has_asked(self):
        for text in ALL_RULES:
            self.begin(("vote", 0, 1, 0), ("vote", 1, 1, 0), S=2, text=text)
            self.refuses(("chair", 1, 1, 2), ("chair", 1, 1, 3), ("chair", 1, 1, 0), ("chair", 2, 1, 2))
            self.takes(("chair", 0, 1, 2))

    def test_its_row_has_the_end_that_it_asked_with(self):
        for text in with_rules("free"):
            self.begin(("vote", 0, 1, 0), ("vote", 2, 1, 2), ("vote", 1, 1, 0), ("vote", 1, 1, 2), text=text)
            self.takes(("chair", 2, 1, 6), ("write", 1, 1, START), ("told", 0, 1, 0, 0))
            self.would_take(("chair", 0, 1, 3))
            self.takes(("told", 0, 1, 1, 0))
            self.refuses(("chair", 0, 1, 3))

    def test_it_is_not_yet_the_chair(self):
        for text in ALL_RULES:
            self.begin(*elected(0, 1, 1), text=text)
            self.refuses(("chair", 0, 1, 3))
            self.takes(("vote", 2, 1, 0))
            self.refuses(("chair", 0, 1, 5), ("chair", 0, 1, 7))

    def test_it_may_be_the_chair_of_other_terms(self):
        for text in ALL_RULES:
            self.begin(*elected(0, 1, 1), *elected(0, 2, 1), *elected(0, 7, 2), text=text)
            self.assertEqual(self.bench.chairs(), [(1, 0), (2, 0), (7, 0)])

    def test_its_line_begins_as_its_row(self):
        self.begin(*settled_line(), ("vote", 1, 2, 1), ("vote", 2, 2, 1), ("chair", 1, 2, 6))
        self.assertEqual(self.bench.line(2), [(1, START), (1, ask(1))])
        self.assertEqual((self.bench.mark(2), self.bench.row_of(2)), (0, []))

    def test_the_roll_of_its_own_row_counts(self):
        double = settled_line() + [("write", 1, 3, ("roll", 7, 24)), ("told", 1, 1, 3, 1)]
        for text in ALL_RULES:
            self.begin(*double, ("vote", 1, 2, 1), ("vote", 2, 2, 1), text=text)
            self.refuses(("chair", 1, 2, 6))
            self.takes(("vote", 3, 2, 1))
            (self.would_take if "half" in text else self.refuses)(("chair", 1, 2, 14))
            self.refuses(("chair", 1, 2, 8), ("chair", 1, 2, 10))
            self.takes(("vote", 4, 2, 1))
            self.would_take(("chair", 1, 2, 30))
            self.refuses(("chair", 1, 2, 26), ("chair", 1, 2, 28), ("chair", 1, 2, 6))

    def test_rolls_of_other_rows_do_not_count(self):
        self.begin(*settled_line(), ("write", 1, 3, ("roll", 7, 24)), ("vote", 1, 2, 1), ("vote", 2, 2, 1))
        self.takes(("chair", 1, 2, 6))


if __name__ == "__main__":
    unittest.main()
