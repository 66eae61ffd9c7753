"""The world of a bench, and its moves within numbers of hands, terms and asks."""

import itertools
import random
import unittest

from chairvote.benches import Bench
from chairvote.rules import Rules
from chairvote.worlds import moves
from tests.benching import ALL_RULES, BenchTest, elected, settled_line, taken_by, written
from tests.making import GREAT_TERM, START, ask, whole_state
from tests.paperdraws import PaperDrawer, take
from tests.witness import Witness, is_in

EMPTY = ((),) * 7
ONE = (1, START)
TWO = (1, ask(1))


class WorldTest(BenchTest):
    def test_of_a_bench_that_took_nothing(self):
        for bench in (Bench(1), Bench(7), Bench(1 << 59, Rules("free any old half"))):
            self.assertEqual(bench.world(), EMPTY)

    def becomes(self, paper, **changed):
        """The parts that change, by their names; the others stay."""
        names = ("terms", "votes", "askings", "rows", "lines", "places", "marks")
        before = self.bench.world()
        self.takes(paper)
        after = self.bench.world()
        self.assertIsInstance(after, tuple)
        self.assertEqual({name: b for name, a, b in zip(names, before, after, strict=True) if a != b}, changed)

    def test_each_part(self):
        self.begin()
        self.becomes(("vote", 2, 1, 2), terms=((2, 1),), votes=((2, 1, 4),), askings=((2, 1, (0, 0)),))
        self.becomes(("vote", 1, 1, 2), terms=((1, 1), (2, 1)), votes=((1, 1, 4), (2, 1, 4)))
        self.becomes(("chair", 2, 1, 6), lines=((1, 2, ()),))
        self.becomes(("write", 1, 1, START), rows=((2, (ONE,)),), lines=((1, 2, (ONE,)),))
        self.becomes(("beat", 1, 1))
        self.becomes(("told", 0, 1, 0, 1), terms=((0, 1), (1, 1), (2, 1)))
        self.becomes(("told", 0, 1, 1, 0), rows=((0, (ONE,)), (2, (ONE,))), places=((0, 1, 1),))
        self.becomes(("told", 0, 1, 0, 0))
        self.becomes(("settle", 1, 1, 5), marks=((1, 1),))
        self.becomes(("write", 1, 2, ask(1)), rows=((0, (ONE,)), (2, (ONE, TWO))), lines=((1, 2, (ONE, TWO)),))
        self.becomes(("told", 0, 1, 2, 0), rows=((0, (ONE, TWO)), (2, (ONE, TWO))), places=((0, 1, 2),))
        self.becomes(("settle", 1, 2, 5), marks=((1, 2),))
        self.becomes(
            ("vote", 0, 5, 0), terms=((0, 5), (1, 1), (2, 1)), votes=((0, 5, 1), (1, 1, 4), (2, 1, 4)),
            askings=((0, 5, (1, 2)), (2, 1, (0, 0))),
        )
        self.becomes(
            ("vote", 1, 5, 0), terms=((0, 5), (1, 5), (2, 1)),
            votes=((0, 5, 1), (1, 1, 4), (1, 5, 1), (2, 1, 4)),
        )
        self.becomes(("chair", 0, 5, 3), lines=((1, 2, (ONE, TWO)), (5, 0, (ONE, TWO))))

    def test_beats_answers_and_looks_change_no_world(self):
        self.begin(*settled_line())
        for paper in (
            ("beat", 1, 2), ("look", 1, 2, 5, "a", 2), ("told", 1, 1, 2, 2), ("seen", 1, 2, 5, "a", 2, 1, 3),
            ("answer", 1, 0, 1, 2, 1), ("told", 1, 1, 0, 0), ("told", 1, 1, 1, 1),
        ):
            self.becomes(paper)

    def test_each_part_is_sorted(self):
        great = GREAT_TERM
        self.begin(*elected(9, great, 4), ("write", great, 1, START), S=1 << 4, text="once best old most")
        self.takes(("told", 8, great, 1, 0), ("told", 3, great, 1, 0), ("vote", 6, 2, 6), ("vote", 5, 3, 5))
        self.assertEqual(self.bench.world(), (
            ((3, great), (4, great), (5, 3), (6, 2), (8, great), (9, great)),
            ((4, great, 1 << 9), (5, 3, 32), (6, 2, 64), (9, great, 1 << 9)),
            ((5, 3, (0, 0)), (6, 2, (0, 0)), (9, great, (0, 0))),
            tuple((h, ((great, START),)) for h in (3, 8, 9)),
            ((great, 9, ((great, START),)),), ((3, great, 1), (8, great, 1)), (),
        ))

    def test_marks_and_lines_of_a_lesser_term_that_came_later(self):
        self.begin(*elected(0, 1, 1), *written(1, 1, START, ask(1)), ("told", 1, 1, 2, 0), *elected(1, 2, 2))
        self.takes(("write", 2, 3, START), ("told", 2, 2, 3, 0), ("settle", 2, 3, 6), ("settle", 1, 2, 3))
        self.assertEqual(self.bench.world()[6], ((1, 2), (2, 3)))
        self.begin(*elected(1, 9, 0), *elected(2, 4, 3), S=15, text="once best own half")
        self.assertEqual(self.bench.world()[4], ((4, 2, ()), (9, 1, ())))

    def test_several_votes_of_a_hand_in_a_term(self):
        self.begin(("vote", 2, 1, 2), ("vote", 0, 1, 0), ("vote", 1, 1, 0), ("vote", 1, 1, 2), text="free any old half")
        self.assertEqual(self.bench.world()[1], ((0, 1, 1), (1, 1, 5), (2, 1, 4)))

    def test_of_a_broken_bench(self):
        self.begin(("vote", 0, 1, 0), ("vote", 1, 1, 1), ("chair", 0, 1, 1), S=3, text="once best own half")
        self.becomes(("chair", 1, 1, 2))
        self.begin(*elected(0, 1), ("write", 1, 1, START), ("settle", 1, 1, 1), S=3, text="once best own half")
        self.takes(("vote", 1, 2, 1))
        self.becomes(("chair", 1, 2, 2), lines=((1, 0, (ONE,)), (2, 1, ())))
        self.assertEqual(self.bench.broken(), ("lost", 2))

    def test_a_world_that_was_given_stays(self):
        self.begin(*settled_line())
        world = self.bench.world()
        self.takes(("write", 1, 3, ask(2)), ("told", 1, 1, 3, 0), ("settle", 1, 3, 3))
        self.assertEqual(world, taken_by(Bench(7), settled_line()).world())

    def test_of_drawn_papers(self):
        for trial in range(32):
            bench, witness, drawer = drawn(trial, ALL_RULES[trial % 16])
            self.assertEqual(bench.world(), witness.world())
            for part in bench.world():
                self.assertEqual(part, tuple(sorted(part, key=lambda piece: piece[:2])))


def drawn(trial, text, papers=60, number=3):
    """A bench and a witness that took drawn papers."""
    chance = random.Random(trial)
    S = chance.randrange(1, 1 << number)
    bench, witness = Bench(S, Rules(text)), Witness(S, text)
    drawer = PaperDrawer(bench, S, number, chance, wrong=0)
    drawer.term = chance.choice((0, 0, 1))
    for again in range(chance.randrange(papers)):
        paper = drawer.draw()
        if take(bench, paper):
            drawer.note(paper)
            assert witness.take(paper)
    return bench, witness, drawer


def told_places(bench, term):
    return {hand: place for hand, other, place in bench.world()[5] if other == term}


def all_papers(bench, hands, terms, asks):
    """All papers of the kinds of a move, with all hands, terms, places and sets within the numbers, and beyond."""
    some_hands, sets, chairs = range(hands), range(1 << hands), dict(bench.chairs())
    for hand, term, whom in itertools.product(some_hands, range(terms + 1), some_hands):
        yield ("vote", hand, term, whom)
    for hand, term, S in itertools.product(some_hands, range(terms + 1), sets):
        if all(is_in(h, S) == is_in(hand, bench.votes_of(h, term)) for h in some_hands):
            yield ("chair", hand, term, S)
    for term in range(1, terms + 1):
        if chairs.get(term, hands) >= hands:
            continue
        line, told = bench.line(term), told_places(bench, term)
        for place in range(-1, len(line) + 3):
            yield ("write", term, place, START)
            k = len([what for other, what in line if what[0] == "ask"]) + 1
            if k <= asks:
                yield ("write", term, place, ("ask", 0, k, ("add", "a", k)))
            for hand in some_hands:
                yield ("told", hand, term, place, 0)
            for S in sets:
                if all(is_in(h, S) == (h == chairs[term] or told.get(h, 0) >= place) for h in some_hands):
                    yield ("settle", term, place, S)


def tried(bench, witness, hands, terms, asks):
    """The moves, found by trying all papers one by one at benches that read all papers anew."""
    found = []
    for paper in all_papers(bench, hands, terms, asks):
        after = Witness(witness.first[0], " ".join(witness.words))
        for taken in witness.taken:
            assert after.take(taken)
        if after.take(paper) and (after.broken != witness.broken or after.world() != witness.world()):
            found.append(paper)
    return found


class MovesTest(unittest.TestCase):
    def assert_moves(self, bench, hands, terms, asks, papers):
        before = whole_state(bench)
        found = moves(bench, hands, terms, asks)
        self.assertIsInstance(found, list)
        self.assertEqual(sorted(found, key=repr), sorted(papers, key=repr))
        self.assertEqual(whole_state(bench), before)

    def test_of_a_bench_that_took_nothing(self):
        for hands, terms, asks in itertools.product((1, 2, 3), (1, 2, 3), (0, 2)):
            papers = [("vote", h, term, h) for h in range(hands) for term in range(1, terms + 1)]
            self.assert_moves(Bench((1 << hands) - 1), hands, terms, asks, papers)

    def test_each_kind(self):
        bench = taken_by(Bench(7), [("vote", 0, 1, 0), ("vote", 1, 1, 0)])
        self.assert_moves(bench, 3, 1, 1, [("vote", 2, 1, 0), ("vote", 2, 1, 2), ("chair", 0, 1, 3)])
        bench.take(("chair", 0, 1, 3))
        votes = [("vote", 2, 1, 0), ("vote", 2, 1, 2)]
        self.assert_moves(bench, 3, 1, 1, votes + [("write", 1, 1, START), ("told", 2, 1, 0, 0)])
        taken_by(bench, written(1, 1, START))
        tolds = [("told", 1, 1, 1, 0), ("told", 2, 1, 0, 0), ("told", 2, 1, 1, 0)]
        what = ("ask", 0, 1, ("add", "a", 1))
        self.assert_moves(bench, 3, 1, 1, votes + tolds + [("write", 1, 2, what)])
        self.assert_moves(bench, 3, 1, 0, votes + tolds)
        taken_by(bench, [("write", 1, 2, what), ("told", 1, 1, 1, 0), ("told", 2, 1, 2, 0)])
        settles = [("settle", 1, 1, 7), ("settle", 1, 2, 5)]
        self.assert_moves(bench, 3, 1, 1, [("told", 1, 1, 2, 0)] + settles)
        second = ("write", 1, 3, ("ask", 0, 2, ("add", "a", 2)))
        self.assert_moves(bench, 3, 1, 2, [("told", 1, 1, 2, 0), second] + settles)
        self.assert_moves(bench, 3, 1, 3, [("told", 1, 1, 2, 0), second] + settles)

    def test_asks_of_whatever_kind_in_the_line_are_counted(self):
        bench = taken_by(Bench(1), elected(0, 1) + written(1, 1, START, ask(7, ("put", "c", 3), who=9), ask(7, who=9)))
        writes = [paper for paper in moves(bench, 1, 1, 3) if paper[0] == "write"]
        self.assertEqual(writes, [("write", 1, 4, ("ask", 0, 3, ("add", "a", 3)))])
        self.assertEqual([paper for paper in moves(bench, 1, 1, 2) if paper[0] == "write"], [])

    def test_numbers_smaller_than_the_benches_own(self):
        bench = taken_by(Bench(7), settled_line() + elected(1, 2, 2) + written(2, 3, START))
        second = ("write", 1, 3, ("ask", 0, 2, ("add", "a", 2)))
        self.assert_moves(bench, 3, 1, 3, [second])
        self.assert_moves(bench, 3, 1, 1, [])
        self.assert_moves(bench, 1, 2, 3, [second, ("vote", 0, 2, 0)])
        self.assert_moves(bench, 2, 2, 1, [("vote", 0, 2, 0), ("vote", 0, 2, 1)] + [
            ("told", 0, 2, place, 0) for place in range(4)
        ])
        bench = taken_by(Bench(7), elected(2, 1, 1) + written(1, 1, START) + [("told", 1, 1, 1, 0)])
        self.assert_moves(bench, 2, 1, 2, [("vote", 0, 1, 0)])

    def test_a_chair_of_a_greater_term_than_the_number(self):
        bench = taken_by(Bench(7), [("vote", 0, 2, 0), ("vote", 1, 2, 0)])
        self.assert_moves(bench, 3, 1, 0, [("vote", 2, 1, 2)])
        self.assert_moves(bench, 3, 2, 0, [("vote", 2, 1, 2), ("vote", 2, 2, 0), ("vote", 2, 2, 2), ("chair", 0, 2, 3)])

    def test_tolds_of_each_term_count_for_its_settles_alone(self):
        bench = taken_by(Bench(7), elected(0, 1, 1) + written(1, 1, START, ask(1)))
        taken_by(bench, [("told", 1, 1, 2, 0), ("told", 2, 1, 1, 0)] + elected(1, 2, 2) + written(2, 3, START))
        bench.take(("told", 2, 2, 3, 0))
        settles = [paper for paper in moves(bench, 3, 2, 0) if paper[0] == "settle"]
        self.assertEqual(sorted(settles), [("settle", 1, 1, 7), ("settle", 1, 2, 3), ("settle", 2, 3, 6)])

    def test_voters_and_hands_beyond_the_number_are_left_out(self):
        bench = taken_by(Bench(7), [("vote", 0, 1, 0), ("vote", 1, 1, 0), ("vote", 2, 1, 0), ("vote", 3, 1, 0)])
        self.assertEqual(moves(bench, 3, 1, 0), [("chair", 0, 1, 7)])
        self.assertEqual(moves(bench, 2, 1, 0), [("chair", 0, 1, 3)])
        self.assertEqual(moves(bench, 1, 1, 0), [])
        taken_by(bench, [("chair", 0, 1, 15), ("write", 1, 1, START)] + [("told", h, 1, 1, 0) for h in (1, 2, 3)])
        self.assertEqual(moves(bench, 3, 1, 0), [("settle", 1, 1, 7)])
        self.assertEqual(moves(bench, 2, 1, 0), [("settle", 1, 1, 3)])
        self.assertEqual(moves(bench, 1, 1, 0), [])

    def test_by_which_it_breaks(self):
        rules = Rules("once best own half")
        bench = taken_by(Bench(3, rules), [("vote", 0, 1, 0), ("vote", 1, 1, 1), ("chair", 0, 1, 1)])
        self.assert_moves(bench, 2, 1, 0, [("chair", 1, 1, 2), ("write", 1, 1, START)])
        bench = taken_by(Bench(3, rules), elected(0, 1) + written(1, 1, START) + elected(1, 2))
        self.assert_moves(bench, 2, 2, 0, [
            ("settle", 1, 1, 1), ("write", 2, 1, START), ("vote", 0, 2, 0), ("told", 0, 2, 0, 0),
        ])

    def test_a_broken_bench_has_none(self):
        for papers in (
            [("vote", 0, 1, 0), ("vote", 1, 1, 1), ("chair", 0, 1, 1), ("chair", 1, 1, 2)],
            elected(0, 1) + written(1, 1, START) + [("settle", 1, 1, 1)] + elected(1, 2),
        ):
            bench = taken_by(Bench(3, Rules("once best own half")), papers)
            self.assertIsNotNone(bench.broken())
            self.assertEqual(moves(bench, 3, 3, 2), [])

    def test_of_drawn_benches_against_all_papers_tried(self):
        kinds, broken = set(), 0
        numbers = ((3, 3, 2), (3, 2, 1), (2, 3, 2), (1, 2, 3), (3, 4, 0), (4, 2, 2))
        for trial in range(128):
            bench, witness, drawer = drawn(trial, ALL_RULES[trial % 16], papers=160)
            hands, terms, asks = drawer.chance.choice(numbers)
            with self.subTest(trial=trial):
                papers = tried(bench, witness, hands, terms, asks)
                self.assert_moves(bench, hands, terms, asks, papers)
            kinds.update(paper[0] for paper in papers)
            broken += bench.broken() is not None
        self.assertEqual(kinds, {"vote", "chair", "write", "told", "settle"})
        self.assertGreater(broken, 0)

    def test_beats_and_looks_change_no_moves(self):
        bench = taken_by(Bench(7), settled_line())
        before = moves(bench, 3, 2, 2)
        taken_by(bench, [("beat", 1, 2), ("look", 1, 2, 5, "a", 2), ("told", 1, 1, 0, 2), ("answer", 1, 0, 1, 2, 1)])
        self.assertEqual(moves(bench, 3, 2, 2), before)

    def test_a_list_that_was_given_is_the_askers_own(self):
        bench = taken_by(Bench(7), settled_line())
        given = moves(bench, 3, 2, 2)
        given.clear()
        self.assertNotEqual(moves(bench, 3, 2, 2), given)


if __name__ == "__main__":
    unittest.main()
