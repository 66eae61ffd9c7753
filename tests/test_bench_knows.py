"""What a bench knows of the papers that it took."""

import unittest

from chairvote.benches import Bench
from chairvote.rules import Rules
from tests.benching import BenchTest, elected, settled_line, taken_by, written
from tests.making import GREAT_TERM, START, ask, whole_state

ONE = (1, START)
TWO = (1, ask(1))


def told_of(bench):
    """All that the interface tells of a bench, of the first hands and terms."""
    return (
        [(bench.term_of(h), bench.row_of(h)) for h in range(5)],
        [bench.votes_of(h, t) for h in range(5) for t in range(5)],
        bench.chairs(), [(bench.line(t), bench.mark(t)) for t in range(5)], bench.world(), bench.broken(),
    )


class NewTest(unittest.TestCase):
    def test_a_bench_that_took_nothing(self):
        for bench in (Bench(7), Bench(7, None), Bench(1 << 59, Rules("free any old half")), Bench(7).twin()):
            for h in (0, 1, 3, 59):
                self.assertEqual((bench.term_of(h), bench.row_of(h)), (0, []))
                for term in (0, 1, GREAT_TERM):
                    self.assertEqual(bench.votes_of(h, term), 0)
            for term in (0, 1, GREAT_TERM):
                self.assertEqual((bench.line(term), bench.mark(term)), ([], 0))
            self.assertEqual(bench.chairs(), [])
            self.assertIsNone(bench.broken())

    def test_without_rules_the_told_ones_hold(self):
        papers = [("vote", 0, 1, 0), ("vote", 2, 1, 2), ("vote", 1, 1, 0)]
        for bench, votes in ((Bench(7), 1), (Bench(7, None), 1), (Bench(7, Rules("free best own most")), 5)):
            taken_by(bench, papers)
            try:
                bench.take(("vote", 1, 1, 2))
            except ValueError:
                pass
            self.assertEqual(bench.votes_of(1, 1), votes)

    def test_rules_that_were_handed_in_are_kept_as_a_copy(self):
        rules = Rules("free any own half")
        bench = Bench(15, rules)
        rules.once, rules.best, rules.own, rules.most = True, True, True, True
        taken_by(bench, [("vote", 0, 1, 0), ("vote", 2, 1, 2), ("vote", 1, 1, 0), ("vote", 1, 1, 2)])
        bench.take(("chair", 0, 1, 3))
        self.assertEqual(bench.chairs(), [(1, 0)])
        self.assertEqual((rules.once, rules.best, rules.own, rules.most), (True, True, True, True))


class KindsTest(BenchTest):
    """What changes behind each kind of paper, and that nothing else does."""

    def changes(self, paper, **changed):
        before = self.told()
        self.takes(paper)
        after = self.told()
        self.assertEqual({name: part for name, part in after.items() if part != before[name]}, changed)

    def told(self):
        bench = self.bench
        told = {"chairs": bench.chairs(), "broken": bench.broken()}
        for h in range(3):
            told[f"term{h}"], told[f"row{h}"] = bench.term_of(h), bench.row_of(h)
            told.update((f"votes{h}in{term}", bench.votes_of(h, term)) for term in range(5))
        for term in range(5):
            told[f"line{term}"], told[f"mark{term}"] = bench.line(term), bench.mark(term)
        return told

    def test_each_kind(self):
        self.begin()
        self.changes(("vote", 0, 1, 0), term0=1, votes0in1=1)
        self.changes(("vote", 1, 1, 0), term1=1, votes1in1=1)
        self.changes(("chair", 0, 1, 3), chairs=[(1, 0)])
        self.changes(("write", 1, 1, START), line1=[ONE], row0=[ONE])
        self.changes(("write", 1, 2, ask(1)), line1=[ONE, TWO], row0=[ONE, TWO])
        self.changes(("beat", 1, 1))
        self.changes(("told", 1, 1, 1, 1), row1=[ONE])
        self.changes(("told", 1, 1, 2, 0), row1=[ONE, TWO])
        self.changes(("told", 2, 1, 0, 0), term2=1)
        self.changes(("settle", 1, 1, 3), mark1=1)
        self.changes(("settle", 1, 2, 3), mark1=2)
        self.changes(("answer", 1, 0, 1, 2, 1))
        self.changes(("beat", 1, 2))
        self.changes(("look", 1, 2, 5, "a", 2))
        self.changes(("told", 1, 1, 2, 2))
        self.changes(("seen", 1, 2, 5, "a", 2, 1, 3))
        self.changes(("vote", 1, 3, 1), term1=3, votes1in3=2)
        self.changes(("vote", 0, 3, 1), term0=3, votes0in3=2)
        self.changes(("chair", 1, 3, 3), chairs=[(1, 0), (3, 1)], line3=[ONE, TWO])
        self.changes(("write", 3, 3, START), line3=[ONE, TWO, (3, START)], row1=[ONE, TWO, (3, START)])
        self.changes(("told", 2, 3, 3, 0), term2=3, row2=[ONE, TWO, (3, START)])
        self.changes(("settle", 3, 3, 6), mark3=3)

    def test_a_row_is_cut_by_a_told_and_the_line_is_not(self):
        self.begin(*elected(0, 1, 1), *written(1, 1, START, ask(1)), *elected(2, 2, 1), ("write", 2, 1, START))
        self.changes(("told", 0, 2, 1, 0), term0=2, row0=[(2, START)])
        self.assertEqual(self.bench.line(1), [ONE, TWO])

    def test_by_free_a_hand_has_several_votes_in_a_term(self):
        self.begin(("vote", 0, 1, 0), ("vote", 2, 1, 2), text="free best own most")
        self.changes(("vote", 1, 1, 0), term1=1, votes1in1=1)
        self.changes(("vote", 1, 1, 2), votes1in1=5)
        self.changes(("vote", 2, 1, 0), votes2in1=5)

    def test_the_greatest_place_and_beat_of_tolds_stay(self):
        self.begin(*elected(0, 1, 1), *written(1, 1, START, ask(1)), ("beat", 1, 1), ("beat", 1, 2))
        self.takes(("look", 1, 2, 5, "a", 1), ("told", 1, 1, 2, 2))
        self.changes(("told", 1, 1, 0, 0))
        self.changes(("settle", 1, 2, 3), mark1=2)
        self.changes(("seen", 1, 2, 5, "a", 2, 1, 3))


class UnknownTest(BenchTest):
    def test_hands_and_terms_that_it_knows_nothing_of(self):
        self.begin(*settled_line())
        for h in (3, 59):
            self.knows(h, 0)
            self.assertEqual(self.bench.votes_of(h, 1), 0)
        for term in (0, 2, GREAT_TERM):
            self.assertEqual([self.bench.votes_of(h, term) for h in range(3)], [0, 0, 0])
            self.assertEqual((self.bench.line(term), self.bench.mark(term)), ([], 0))
        self.assertEqual(self.bench.chairs(), [(1, 0)])

    def test_a_term_in_which_there_are_votes_but_no_chair(self):
        self.begin(("vote", 0, 4, 0), ("vote", 1, 4, 0))
        self.assertEqual((self.bench.chairs(), self.bench.line(4), self.bench.mark(4)), ([], [], 0))

    def test_asking_makes_nothing_known(self):
        self.begin(*settled_line())
        before = whole_state(self.bench)
        told_of(self.bench)
        self.assertEqual(whole_state(self.bench), before)

    def test_chairs_are_told_in_rising_order_however_they_came(self):
        self.begin(*elected(1, 9, 0), *elected(2, 4, 3), S=15, text="once best own half")
        self.assertEqual(self.bench.chairs(), [(4, 2), (9, 1)])
        self.takes(*elected(3, 6, 2), *elected(0, 10, 1))
        self.assertEqual(self.bench.chairs(), [(4, 2), (6, 3), (9, 1), (10, 0)])


class MarkTest(BenchTest):
    """The mark up to a term is that of a lesser term, where this is greater."""

    def marked(self, *more):
        self.begin(*settled_line(), *elected(1, 2, 2), ("write", 2, 3, START), *more)

    def test_the_mark_of_a_term_is_its_own(self):
        self.marked()
        self.assertEqual([self.bench.mark(term) for term in range(4)], [0, 2, 0, 0])
        self.takes(("told", 2, 2, 3, 0), ("settle", 2, 3, 6))
        self.assertEqual([self.bench.mark(term) for term in range(4)], [0, 2, 3, 0])

    def test_what_a_lesser_term_settled_is_answered(self):
        self.marked()
        self.takes(("answer", 2, 0, 1, 2, 1))

    def test_a_greater_terms_mark_does_not_count(self):
        self.begin(*elected(0, 1, 1), *written(1, 1, START, ask(1)), ("told", 1, 1, 2, 0))
        self.takes(*elected(1, 2, 2), ("write", 2, 3, START), ("told", 2, 2, 3, 0), ("settle", 2, 3, 6))
        self.assertEqual((self.bench.mark(1), self.bench.mark(2)), (0, 3))
        self.refuses(("answer", 1, 0, 1, 2, 1))
        self.would_take(("answer", 2, 0, 1, 2, 1))
        self.takes(("settle", 1, 2, 3), ("answer", 1, 0, 1, 2, 1))

    def test_the_greatest_of_several_lesser_marks_counts(self):
        self.begin(*settled_line(), *elected(1, 2, 2), *written(2, 3, START, ask(2), ask(3)), ("told", 2, 2, 5, 0))
        self.takes(("settle", 2, 4, 6), *elected(2, 3, 0), ("write", 3, 6, START))
        self.would_take(("answer", 3, 0, 1, 2, 1), ("answer", 3, 0, 2, 4, 2))
        self.refuses(("answer", 3, 0, 3, 5, 3))
        self.takes(("settle", 2, 5, 6))
        self.takes(("answer", 3, 0, 3, 5, 3))


class StandsTest(BenchTest):
    """The chair of a term stands while its hand's term is that term."""

    LATER = (
        ("write", 1, 3, ask(2)), ("beat", 1, 3), ("settle", 1, 2, 3), ("answer", 1, 0, 1, 1, 1),
        ("look", 1, 2, 5, "a", 1), ("seen", 1, 1, 5, "a", 1, 0, 3),
    )

    def line(self):
        self.begin(*elected(0, 1, 1), *written(1, 1, START, ask(1)), ("beat", 1, 1), ("look", 1, 1, 5, "a", 1))
        self.takes(("beat", 1, 2), ("told", 1, 1, 2, 1), ("settle", 1, 1, 3))

    def test_it_stands_whatever_others_do(self):
        self.line()
        self.takes(("vote", 1, 9, 1), ("vote", 2, 9, 1), ("chair", 1, 9, 6), ("write", 9, 3, START))
        self.would_take(*[paper for paper in self.LATER if paper[0] != "answer"])
        self.takes(("settle", 1, 2, 3), ("answer", 1, 0, 1, 2, 1))

    def test_it_stands_no_longer_behind_a_vote_of_its_own(self):
        for paper in (("vote", 0, 2, 0), ("vote", 0, GREAT_TERM, 0)):
            self.line()
            self.takes(paper)
            self.refuses(*self.LATER)
            self.assertEqual((self.bench.chairs(), len(self.bench.line(1)), self.bench.mark(1)), ([(1, 0)], 2, 1))

    def test_it_stands_no_longer_behind_a_told_or_a_vote_for_another(self):
        self.line()
        self.takes(("vote", 1, 2, 1), ("vote", 0, 2, 1))
        self.refuses(*self.LATER)
        self.line()
        self.takes(*elected(1, 2, 2), ("told", 0, 2, 0, 0))
        self.knows(0, 2, [ONE, TWO])
        self.refuses(*self.LATER)

    def test_what_was_told_of_it_goes_on(self):
        self.line()
        self.takes(("vote", 0, 2, 0))
        self.takes(("told", 2, 1, 2, 2))
        self.knows(2, 1, [ONE, TWO])

    def test_of_a_term_without_chair_none_stands(self):
        self.begin(("vote", 0, 1, 0), ("vote", 1, 1, 0))
        self.refuses(
            ("write", 1, 1, START), ("beat", 1, 1), ("settle", 1, 1, 3), ("answer", 1, 0, 1, 1, 1),
            ("look", 1, 0, 5, "a", 1), ("look", 1, 1, 5, "a", 1), ("seen", 1, 1, 5, "a", 1, 0, 3),
        )


class ApartTest(BenchTest):
    def test_a_list_that_was_given_is_the_askers_own(self):
        self.begin(*settled_line())
        before = whole_state(self.bench)
        gives = (
            lambda bench: bench.row_of(0), lambda bench: bench.row_of(2), lambda bench: bench.line(1),
            lambda bench: bench.line(9), lambda bench: bench.chairs(),
        )
        for give in gives:
            given = give(self.bench)
            self.assertIsInstance(given, list)
            given.append((9, START))
            given[0] = (8, START)
            given.reverse()
            self.assertEqual(whole_state(self.bench), before)
            self.assertNotEqual(give(self.bench), given)
        self.takes(("write", 1, 3, ask(2)))
        self.assertEqual(self.bench.line(1), [ONE, TWO, (1, ask(2))])

    def test_a_list_that_was_given_stays_as_it_was(self):
        self.begin(*settled_line())
        given = self.bench.line(1), self.bench.row_of(0), self.bench.row_of(1), self.bench.chairs(), self.bench.world()
        copies = [list(part) for part in given]
        self.takes(("write", 1, 3, ask(2)), ("told", 1, 1, 3, 0), ("vote", 2, 2, 2), ("vote", 1, 3, 1))
        self.assertEqual([list(part) for part in given], copies)

    def test_a_twin_is_alike_and_apart(self):
        for text in ("once best own most", "free any old half"):
            self.begin(*settled_line(), ("beat", 1, 2), ("look", 1, 2, 5, "a", 2), text=text)
            twin, before = self.bench.twin(), whole_state(self.bench)
            self.assertEqual(whole_state(twin), before)
            self.assertEqual(told_of(twin), told_of(self.bench))
            more = [
                ("told", 1, 1, 2, 2), ("seen", 1, 2, 5, "a", 2, 1, 3), ("answer", 1, 0, 1, 2, 1),
                ("write", 1, 3, ask(2)), ("told", 1, 1, 3, 2), ("settle", 1, 3, 3), ("beat", 1, 3),
                ("look", 1, 3, 5, "b", 3), *elected(1, 2, 2),
            ]
            taken_by(twin, more)
            self.assertEqual(whole_state(self.bench), before)
            told = told_of(twin)
            self.takes(*more[:3], ("vote", 0, 5, 0))
            self.assertEqual(told_of(twin), told)
            self.refuses(("write", 1, 3, ask(2)))

    def test_a_twin_knows_which_looks_were_seen(self):
        self.begin(*settled_line(), ("beat", 1, 2), ("look", 1, 2, 5, "a", 2), ("told", 1, 1, 2, 2))
        first, count, seen = self.bench, self.count, ("seen", 1, 2, 5, "a", 2, 1, 3)
        self.bench = first.twin()
        self.takes(seen)
        self.bench = self.bench.twin()
        self.refuses(seen)
        self.bench, self.count = first, count
        self.takes(seen)

    def test_a_twin_counts_on_from_where_it_was_made(self):
        self.begin(*settled_line())
        first, self.bench = self.bench, self.bench.twin()
        self.refuses(("beat", 1, 1))
        self.takes(("beat", 1, 2))
        self.refuses(("beat", 1, 2))
        self.bench, self.count = first, self.count - 1
        self.refuses(("beat", 1, 1))

    def test_a_twin_has_the_same_rules_and_first_roll(self):
        for text, S in (("free any old half", 3), ("once best own most", 7)):
            bench = Bench(S, Rules(text)).twin().twin()
            taken_by(bench, [("vote", 0, 1, 0), ("vote", 1, 1, 1)])
            for hand, may in ((0, S == 3), (1, S == 3)):
                try:
                    bench.twin().take(("chair", hand, 1, 1 << hand))
                    self.assertTrue(may)
                except ValueError:
                    self.assertFalse(may)


class GreatTermsTest(BenchTest):
    def test_terms_of_forty_and_more_figures(self):
        for term in (10 ** 40, GREAT_TERM, 10 ** 60 - 2):
            self.begin(*settled_line(term), *elected(1, term + 1, 0), ("write", term + 1, 3, START))
            self.assertEqual(self.bench.chairs(), [(term, 0), (term + 1, 1)])
            self.assertEqual(self.bench.line(term), [(term, START), (term, ask(1))])
            self.assertEqual([self.bench.mark(t) for t in (term - 1, term, term + 1)], [0, 2, 0])
            self.assertEqual((self.bench.votes_of(0, term), self.bench.votes_of(0, term + 1)), (1, 2))
            self.refuses(("vote", 2, term, 2 + 1), ("write", term, 3, ask(2)), ("told", 1, term, 0, 0))
            self.takes(("told", 0, term + 1, 3, 0), ("settle", term + 1, 3, 3))


if __name__ == "__main__":
    unittest.main()
