"""What the tests of benches share: papers that lead somewhere, and what is taken and refused behind them."""

import itertools
import unittest

from chairvote.benches import Bench
from chairvote.errors import BadPaper
from chairvote.rules import Rules
from tests.making import START, ask, whole_state

TOLD_RULES = "once best own most"
ALL_RULES = [
    " ".join(words) for words in itertools.product(("once", "free"), ("best", "any"), ("own", "old"), ("most", "half"))
]


def with_rules(word):
    """The texts of all rules that have this word."""
    return [text for text in ALL_RULES if word in text.split(" ")]


def elected(hand, term, *voters):
    """The hand asks in the term, is voted for by these others, and takes the chair by all their votes."""
    votes = [("vote", voter, term, hand) for voter in (hand,) + voters]
    return votes + [("chair", hand, term, sum(1 << voter for voter in (hand,) + voters))]


def written(term, first, *whats):
    return [("write", term, place, what) for place, what in enumerate(whats, start=first)]


def taken_by(bench, papers):
    for paper in papers:
        bench.take(paper)
    return bench


class BenchTest(unittest.TestCase):
    """One bench, and how many papers it took."""

    def begin(self, *papers, S=7, text=TOLD_RULES):
        self.bench = Bench(S, Rules(text))
        self.count = 0
        self.takes(*papers)

    def takes(self, *papers):
        for paper in papers:
            self.assertIsNone(self.bench.take(paper))
            self.count += 1

    def would_take(self, *papers):
        """Each of them by itself; the bench stays as it is."""
        before = whole_state(self.bench)
        for paper in papers:
            with self.subTest(paper=paper):
                self.assertIsNone(self.bench.twin().take(paper))
        self.assertEqual(whole_state(self.bench), before)

    def refuses(self, *papers):
        before = whole_state(self.bench)
        for paper in papers:
            with self.subTest(paper=paper):
                with self.assertRaises(BadPaper) as caught:
                    self.bench.take(paper)
                self.assertEqual(caught.exception.at, self.count)
                self.assertEqual(whole_state(self.bench), before)

    def knows(self, h, term, row=()):
        self.assertEqual((self.bench.term_of(h), self.bench.row_of(h)), (term, list(row)))


def settled_line(term=1):
    """Hand 0 of 0, 1 and 2 chairs the term; a start and an ask are told to hand 1 and settled."""
    return elected(0, term, 1) + written(term, 1, START, ask(1)) + [
        ("beat", term, 1), ("told", 1, term, 2, 1), ("settle", term, 2, 3),
    ]
