"""Small worlds gone through by moves: closed, broken and more; their rows, and the caps."""

import inspect
import itertools
import unittest

from chairvote.benches import Bench
from chairvote.errors import NoRules
from chairvote.rules import Rules
from chairvote.worlds import explore, moves
from tests.benching import ALL_RULES, TOLD_RULES, taken_by
from tests.making import START

CLOSED = [
    ((1, 1, 0), 5), ((1, 1, 2), 12), ((1, 2, 1), 55), ((1, 3, 0), 125), ((1, 3, 2), 785), ((2, 1, 0), 14),
    ((2, 1, 2), 46), ((2, 2, 0), 206), ((2, 2, 1), 582), ((3, 1, 0), 167), ((3, 1, 1), 533),
]


def distances(hands, terms, asks, text):
    """How far each world is that is nearer than a break; how far that is, or None; and how many worlds are as far."""
    edge = {((),) * 7: Bench((1 << hands) - 1, Rules(text))}
    far, known, distance = None, {}, 0
    while edge and far is None:
        known.update((world, distance) for world in edge)
        behind = {}
        for bench in edge.values():
            for paper in moves(bench, hands, terms, asks):
                after = taken_by(bench.twin(), [paper])
                if after.broken():
                    far = distance + 1
                behind[after.world()] = after
        edge = {world: bench for world, bench in behind.items() if world not in known}
        distance += 1
    return known, far, len(edge)


class RowsTest(unittest.TestCase):
    def hold_rows(self, rows, numbers, text):
        hands, terms, asks = numbers
        self.assertEqual(rows[0], (((),) * 7, 0, None, None))
        self.assertEqual(len({row[0] for row in rows}), len(rows))
        self.assertEqual([row[1] for row in rows], sorted(row[1] for row in rows))
        benches = [Bench((1 << hands) - 1, Rules(text))]
        for world, distance, back, paper in rows[1:]:
            self.assertIsInstance(back, int)
            self.assertEqual(rows[back][1], distance - 1)
            self.assertIn(paper, moves(benches[back], hands, terms, asks))
            benches.append(taken_by(benches[back].twin(), [paper]))
            self.assertEqual(benches[-1].world(), world)
            self.assertIsNone(benches[-1].broken())

    def hold(self, numbers, text, cap=1000):
        """What is explored, held against worlds that were found by other means; gives the answer's word."""
        answer = explore(*numbers, text, cap)
        self.assertIsInstance(answer, tuple)
        word, rows, papers = answer
        self.assertIsInstance(rows, list)
        self.assertIsInstance(papers, list)
        known, far, as_far = distances(*numbers, text)
        if len(known) > cap:
            self.assertEqual(answer, ("more", [], []))
            return word
        self.assertEqual({row[0]: row[1] for row in rows}, known)
        self.hold_rows(rows, numbers, text)
        self.assertEqual(word, "closed" if far is None else "broken")
        self.assertEqual(len(papers), far or 0)
        if far is not None:
            self.hold_papers(papers, numbers, text)
        return word

    def hold_papers(self, papers, numbers, text):
        bench = Bench((1 << numbers[0]) - 1, Rules(text))
        for paper in papers:
            self.assertIsNone(bench.broken())
            self.assertIn(paper, moves(bench, *numbers))
            bench.take(paper)
        self.assertIsNotNone(bench.broken())

    def test_by_all_rules(self):
        words = []
        for text in ALL_RULES:
            for numbers in ((1, 1, 1), (1, 2, 1), (2, 1, 1), (2, 2, 0), (3, 1, 0)):
                with self.subTest(text=text, numbers=numbers):
                    words.append(self.hold(numbers, text))
        # One hand breaks by no rules; two break by free or half; three, in one term, by free alone.
        self.assertEqual((words.count("closed"), words.count("broken")), (16 + 16 + 4 + 4 + 8, 12 + 12 + 8))

    def test_the_told_rules_close(self):
        for numbers, count in CLOSED:
            with self.subTest(numbers=numbers):
                word, rows, papers = explore(*numbers, cap=1000)
                self.assertEqual((word, len(rows), papers), ("closed", count, []))
                self.hold_rows(rows, numbers, TOLD_RULES)

    def test_the_rows_of_the_smallest_world(self):
        terms, votes, askings = ((0, 1),), ((0, 1, 1),), ((0, 1, (0, 0)),)
        line = ((1, START),)
        self.assertEqual(explore(1, 1, 0), ("closed", [
            (((),) * 7, 0, None, None),
            ((terms, votes, askings, (), (), (), ()), 1, 0, ("vote", 0, 1, 0)),
            ((terms, votes, askings, (), ((1, 0, ()),), (), ()), 2, 1, ("chair", 0, 1, 1)),
            ((terms, votes, askings, ((0, line),), ((1, 0, line),), (), ()), 3, 2, ("write", 1, 1, START)),
            ((terms, votes, askings, ((0, line),), ((1, 0, line),), (), ((1, 1),)), 4, 3, ("settle", 1, 1, 1)),
        ], []))

    def test_the_first_roll_is_all_hands_within_the_number(self):
        for hands in (1, 2, 3):
            chairs = [row for row in explore(hands, 1, 0, cap=1000)[1] if row[3] is not None and row[3][0] == "chair"]
            self.assertEqual(min(row[1] for row in chairs), hands // 2 + 2)


class BrokenTest(unittest.TestCase):
    def test_by_half_two_hands_break_at_once(self):
        word, rows, papers = explore(2, 1, 0, "once best own half", 1000)
        self.assertEqual((word, len(rows), len(papers)), ("broken", 16, 4))
        self.assertEqual([row[1] for row in rows][-1], 3)
        self.assertEqual(sorted(paper[0] for paper in papers), ["chair", "chair", "vote", "vote"])
        self.assertEqual(papers[3][0], "chair")

    def test_by_free_the_nearest_break_is_told(self):
        for numbers in ((2, 1, 0), (2, 2, 2), (2, 3, 1), (3, 1, 2)):
            word, rows, papers = explore(*numbers, "free best own most", 1000)
            self.assertEqual((word, len(papers), max(row[1] for row in rows)), ("broken", 6, 5))

    def test_what_is_lost_may_be_the_nearest_break(self):
        word, rows, papers = explore(3, 2, 0, "once any own most", 60000)
        bench = taken_by(Bench(7, Rules("once any own most")), papers)
        self.assertEqual((word, bench.broken()), ("broken", ("lost", 2)))
        self.assertEqual(len(papers), 9)

    def test_one_hand_breaks_nothing(self):
        for text in ALL_RULES:
            self.assertEqual(explore(1, 2, 1, text, 1000)[0], "closed")


class CapTest(unittest.TestCase):
    def test_closed_at_the_number_of_rows_and_more_below_it(self):
        for numbers, count in CLOSED:
            with self.subTest(numbers=numbers):
                self.assertEqual(explore(*numbers, TOLD_RULES, count - 1), ("more", [], []))
                for cap in (count, count + 1, 1000):
                    self.assertEqual(explore(*numbers, TOLD_RULES, cap)[0], "closed")

    def test_a_break_goes_before_the_count_of_the_worlds_as_far_as_it(self):
        for numbers, text in (
            ((2, 1, 0), "once best own half"), ((2, 2, 1), "once best own half"), ((2, 2, 0), "free best own most"),
            ((3, 1, 0), "free any old half"),
        ):
            known, far, as_far = distances(*numbers, text)
            nearer = len(known)
            self.assertGreater(as_far, 0)
            for cap, word in ((1, "more"), (nearer - 1, "more"), (nearer, "broken"), (nearer + 1, "broken")):
                answer = explore(*numbers, text, cap)
                self.assertEqual((answer[0], len(answer[1])), (word, nearer if word == "broken" else 0))
            self.assertEqual(explore(*numbers, text, nearer - 1), ("more", [], []))

    def test_the_cap_is_two_hundred_where_none_is_told(self):
        self.assertEqual(inspect.signature(explore).parameters["cap"].default, 200)
        self.assertEqual(explore(2, 2, 0), ("more", [], []))
        self.assertEqual(explore(2, 2, 0, TOLD_RULES, 200), ("more", [], []))
        self.assertEqual(explore(2, 2, 0, TOLD_RULES, 206)[0], "closed")
        self.assertEqual(len(explore(3, 1, 0)[1]), 167)

    def test_the_least_cap(self):
        for numbers in itertools.product((1, 2, 3), (1, 2, 3), (0, 2)):
            self.assertEqual(explore(*numbers, cap=1), ("more", [], []))

    def test_worlds_that_are_many(self):
        for numbers, text in itertools.product(((2, 3, 2), (3, 2, 1), (3, 3, 2)), (TOLD_RULES, "once any old most")):
            self.assertEqual(explore(*numbers, text, 1000), ("more", [], []))


class AskedTest(unittest.TestCase):
    def test_texts_that_are_no_rules_are_refused(self):
        for text, at in (
            ("", 0), ("once", 1), ("once best own", 3), ("once best own most ", 4), ("once best own most half", 4),
            ("free any new half", 2), ("best once own most", 0), ("once  best own most", 1), ("once best own Most", 3),
        ):
            for cap in (1, 1000):
                with self.assertRaises(NoRules) as caught:
                    explore(2, 1, 0, text, cap)
                self.assertEqual(caught.exception.at, at)

    def test_the_told_rules_hold_where_none_are_told(self):
        self.assertEqual(explore(2, 1, 1), explore(2, 1, 1, TOLD_RULES, 200))
        self.assertEqual(explore(2, 1, 1)[0], "closed")

    def test_lists_that_were_given_are_the_askers_own(self):
        for text in (TOLD_RULES, "once best own half"):
            given, before = explore(2, 1, 0, text), explore(2, 1, 0, text)
            given[1].clear()
            given[2].append(("vote", 0, 1, 0))
            self.assertEqual(explore(2, 1, 0, text), before)

    def test_the_numbers_bound_terms_and_asks(self):
        word, rows, papers = explore(1, 2, 1, cap=1000)
        self.assertEqual(max(term for row in rows for hand, term in row[0][0]), 2)
        lines = [line for row in rows for term, hand, line in row[0][4]]
        self.assertEqual(max(len([1 for entry in line if entry[1][0] == "ask"]) for line in lines), 1)
        self.assertEqual({entry[1] for line in lines for entry in line}, {START, ("ask", 0, 1, ("add", "a", 1))})


if __name__ == "__main__":
    unittest.main()
