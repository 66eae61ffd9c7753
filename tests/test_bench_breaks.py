"""The two ways in which what a bench took can break, and what comes of a bench that is broken."""

import unittest

from tests.benching import BenchTest, TOLD_RULES, elected, settled_line, with_rules, written
from tests.making import GREAT_TERM, START, ask, whole_state

TWO_ASK = [("vote", 0, 1, 0), ("vote", 2, 1, 2), ("vote", 1, 1, 0), ("vote", 1, 1, 2)]
ALL_KINDS = (
    ("vote", 2, 90, 2), ("vote", 3, 1, 0), ("chair", 0, 1, 3), ("chair", 2, 1, 6), ("write", 1, 1, START),
    ("write", 1, 3, ask(2)), ("beat", 1, 1), ("beat", 1, 2), ("told", 2, 1, 0, 0), ("settle", 1, 1, 3),
    ("settle", 1, 2, 3), ("answer", 1, 0, 1, 2, 1), ("look", 1, 1, 5, "a", 2), ("seen", 1, 1, 5, "a", 2, 1, 3), (),
)


class BreakTest(BenchTest):
    def breaks(self, paper, how):
        self.assertIsNone(self.bench.broken())
        self.takes(paper)
        self.assertEqual(self.bench.broken(), how)
        self.assertIsInstance(self.bench.broken(), tuple)


class ChairsTest(BreakTest):
    def test_by_free_a_term_can_have_two_chairs(self):
        for text in with_rules("free"):
            self.begin(*TWO_ASK, ("chair", 0, 1, 3), text=text)
            self.breaks(("chair", 2, 1, 6), ("chairs", 1))

    def test_by_half_a_term_can_have_two_chairs(self):
        for text in with_rules("half"):
            self.begin(("vote", 0, 1, 0), ("vote", 1, 1, 1), ("chair", 0, 1, 1), S=3, text=text)
            self.breaks(("chair", 1, 1, 2), ("chairs", 1))

    def test_the_term_is_told(self):
        self.begin(*elected(0, 1, 1), text="free any own most")
        self.takes(*[("vote", h, GREAT_TERM, whom) for word, h, term, whom in TWO_ASK], ("chair", 0, GREAT_TERM, 3))
        self.breaks(("chair", 2, GREAT_TERM, 6), ("chairs", GREAT_TERM))

    def test_nothing_else_changes_by_a_second_chair(self):
        self.begin(*TWO_ASK, ("chair", 0, 1, 3), ("write", 1, 1, START), ("beat", 1, 1), text="free best own most")
        self.takes(("told", 1, 1, 1, 1), ("settle", 1, 1, 3))
        before, told = whole_state(self.bench), self.told()
        self.breaks(("chair", 2, 1, 6), ("chairs", 1))
        self.assertEqual(self.told(), told)
        self.bench.count, self.bench.breach = self.bench.count - 1, None
        self.assertEqual(whole_state(self.bench), before)

    def told(self):
        bench = self.bench
        rows = [(bench.term_of(h), bench.row_of(h), bench.votes_of(h, 1)) for h in range(4)]
        return rows, bench.chairs(), bench.line(1), bench.mark(1), bench.world()

    def test_a_chair_paper_of_which_something_does_not_hold_breaks_nothing(self):
        self.begin(*TWO_ASK, ("chair", 0, 1, 3), text="free best own most")
        self.refuses(("chair", 2, 1, 4), ("chair", 2, 1, 5), ("chair", 2, 2, 6), ("chair", 1, 1, 2), ("chair", 0, 1, 3))
        self.assertIsNone(self.bench.broken())

    def test_a_second_chair_goes_before_what_is_lost(self):
        self.begin(*settled_line(), ("vote", 1, 2, 1), ("vote", 2, 2, 2), ("vote", 3, 2, 1), text="free any own half")
        self.takes(("vote", 0, 2, 2), ("vote", 0, 2, 1), ("chair", 1, 2, 3))
        self.breaks(("chair", 2, 2, 5), ("chairs", 2))


class LostTest(BreakTest):
    def test_by_any_a_chair_may_lack_what_is_settled(self):
        for text in with_rules("any"):
            self.begin(*settled_line(), ("vote", 2, 2, 2), ("vote", 1, 2, 2), text=text)
            self.breaks(("chair", 2, 2, 6), ("lost", 2))
            self.assertEqual((self.bench.chairs(), self.bench.line(2)), ([(1, 0), (2, 2)], []))

    def test_by_half_a_chair_may_lack_what_is_settled(self):
        for text in with_rules("half"):
            self.begin(*elected(0, 1), ("write", 1, 1, START), ("settle", 1, 1, 1), ("vote", 1, 5, 1), S=3, text=text)
            self.breaks(("chair", 1, 5, 2), ("lost", 5))

    def old_entries(self, text):
        """The chair of term 3 has told two others of the entries of term 1; hand 4 has one of term 2."""
        self.begin(*elected(0, 1, 1, 3), *written(1, 1, START, ask(1)), ("told", 1, 1, 2, 0), S=31, text=text)
        self.takes(*elected(4, 2, 2, 3), ("write", 2, 1, START), *elected(0, 3, 1, 2))
        self.takes(("told", 1, 3, 2, 0), ("told", 2, 3, 2, 0))

    def test_by_old_what_is_settled_may_be_lost(self):
        for text in with_rules("old"):
            self.old_entries(text)
            self.takes(("settle", 3, 2, 7), ("vote", 4, 4, 4), ("vote", 1, 4, 4), ("vote", 2, 4, 4))
            self.breaks(("chair", 4, 4, 22), ("lost", 4))
            self.assertEqual(self.bench.line(4), [(2, START)])

    def test_by_own_that_is_refused(self):
        for text in with_rules("own"):
            self.old_entries(text)
            self.refuses(("settle", 3, 2, 7))
            self.takes(("write", 3, 3, START), ("told", 1, 3, 3, 0), ("told", 2, 3, 3, 0), ("settle", 3, 3, 7))

    def behind_two(self, *greater, text="once any own most"):
        """Hand 1 was told by the chair of term 1, and then votes for others whose rows are empty."""
        self.begin(*elected(0, 1, 1), *written(1, 1, START, ask(1)), ("told", 1, 1, 2, 0), text=text)
        self.takes(*greater)

    def test_by_a_settle(self):
        for text in with_rules("any"):
            self.behind_two(*elected(2, 2, 1), text=text)
            self.breaks(("settle", 1, 1, 3), ("lost", 2))
            self.assertEqual(self.bench.mark(1), 1)

    def test_the_least_greater_term_is_told(self):
        self.behind_two(*elected(2, 7, 1), *elected(3, 9, 1, 2))
        self.breaks(("settle", 1, 2, 3), ("lost", 7))
        self.behind_two(*elected(1, 4, 2), *elected(2, 7, 1), *elected(2, 9, 1), *elected(3, GREAT_TERM, 1, 2))
        self.breaks(("settle", 1, 2, 3), ("lost", 7))

    def test_the_least_greater_term_that_was_chaired_last(self):
        self.behind_two(("vote", 3, 6, 3), ("vote", 1, 6, 3), ("vote", 2, 6, 3), *elected(2, 9, 1), ("chair", 3, 6, 6))
        self.assertEqual(self.bench.chairs(), [(1, 0), (6, 3), (9, 2)])
        self.breaks(("settle", 1, 2, 3), ("lost", 6))

    def test_one_that_has_otherwise(self):
        self.behind_two(*elected(2, 2, 1), *written(2, 1, START, ask(1)))
        self.breaks(("settle", 1, 2, 3), ("lost", 2))

    def test_one_that_has_the_first_and_lacks_the_second(self):
        self.behind_two(("told", 2, 1, 1, 0), *elected(2, 2, 1))
        self.takes(("settle", 1, 1, 3))
        self.assertIsNone(self.bench.broken())
        self.breaks(("settle", 1, 2, 3), ("lost", 2))

    def test_what_is_not_marked_may_be_lacked(self):
        self.behind_two(*elected(2, 2, 1), *written(2, 1, START, ask(2)))
        self.takes(*elected(2, 3, 1), ("beat", 3, 1))
        self.assertIsNone(self.bench.broken())

    def test_a_lesser_line_may_lack_what_a_greater_one_settled(self):
        self.behind_two(*elected(2, 2, 1), ("write", 2, 1, START), ("told", 1, 2, 1, 0), ("settle", 2, 1, 6))
        self.assertIsNone(self.bench.broken())
        self.takes(("write", 1, 3, ask(3)))
        self.breaks(("settle", 1, 2, 3), ("lost", 2))

    def test_a_line_that_goes_on_behind_what_is_settled(self):
        self.begin(*settled_line(), *elected(1, 2, 2), *written(2, 3, START, ask(5)), ("told", 2, 2, 4, 0))
        self.takes(("settle", 2, 4, 6), *elected(2, 3, 0), ("write", 3, 5, START), ("told", 0, 3, 5, 0))
        self.takes(("settle", 3, 5, 5))
        self.assertIsNone(self.bench.broken())


class BrokenTest(BreakTest):
    def broken_benches(self):
        self.begin(*settled_line(), ("vote", 2, 2, 2), ("vote", 1, 2, 2), ("chair", 2, 2, 6), text="free any own most")
        yield ("lost", 2)
        self.begin(*TWO_ASK, ("chair", 0, 1, 3), ("chair", 2, 1, 6), text="free best own most")
        yield ("chairs", 1)

    def test_the_paper_that_breaks_counts_as_taken(self):
        for how in self.broken_benches():
            self.refuses(("vote", 3, 99, 3))
            self.assertEqual(self.bench.broken(), how)

    def test_all_others_are_refused(self):
        for how in self.broken_benches():
            self.refuses(*ALL_KINDS)
            self.assertEqual(self.bench.broken(), how)

    def test_a_twin_is_broken_too(self):
        for how in self.broken_benches():
            first = self.bench
            self.bench = first.twin()
            self.assertEqual(self.bench.broken(), how)
            self.assertEqual(whole_state(self.bench), whole_state(first))
            self.refuses(*ALL_KINDS)

    def test_a_twin_that_breaks_leaves_the_bench_as_it_was(self):
        self.begin(*TWO_ASK, ("chair", 0, 1, 3), text="free best own most")
        twin = self.bench.twin()
        twin.take(("chair", 2, 1, 6))
        self.assertEqual((twin.broken(), self.bench.broken()), (("chairs", 1), None))
        self.takes(("write", 1, 1, START))

    def test_what_it_knows_can_still_be_asked(self):
        for how in self.broken_benches():
            self.assertEqual(self.bench.chairs()[0], (1, 0))
            self.assertEqual(len(self.bench.world()), 7)
            self.assertEqual(self.bench.votes_of(0, 1), 1)

    def test_by_the_told_rules_each_of_these_is_refused_on_the_way(self):
        self.begin(*TWO_ASK[:3], ("chair", 0, 1, 3), text=TOLD_RULES)
        self.refuses(TWO_ASK[3], ("chair", 2, 1, 6))
        self.begin(*settled_line(), ("vote", 2, 2, 2), text=TOLD_RULES)
        self.refuses(("vote", 1, 2, 2), ("vote", 0, 2, 2), ("chair", 2, 2, 6), ("chair", 2, 2, 4))


if __name__ == "__main__":
    unittest.main()
