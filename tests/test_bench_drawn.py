"""Benches and drawn papers, of no hall: held against a witness by all rules, and what is promised by the told ones."""

import random
import unittest

from chairvote.benches import Bench
from chairvote.rules import Rules
from tests.benching import ALL_RULES, TOLD_RULES
from tests.making import whole_state
from tests.outcomes import Outcomes
from tests.paperdraws import WORDS, PaperDrawer, take
from tests.witness import Witness

TRIALS = 240
PAPERS = 220


def drawn_bench(trial, text):
    """A bench that took nothing, its first roll, and one who draws papers for it."""
    chance = random.Random(trial)
    number = chance.randrange(1, 6)
    S = (1 << number) - 1 if trial % 3 else chance.randrange(1, 1 << number)
    bench = Bench(S, Rules(text))
    return bench, S, PaperDrawer(bench, S, number, chance)


class WitnessTest(unittest.TestCase):
    def test_by_all_rules_what_the_witness_takes_is_taken(self):
        verdicts, breaks = set(), set()
        for trial in range(TRIALS):
            text = ALL_RULES[trial % len(ALL_RULES)]
            bench, S, drawer = drawn_bench(trial, text)
            witness = Witness(S, text)
            with self.subTest(trial=trial, text=text):
                for again in range(PAPERS):
                    verdicts.add(self.hold(bench, witness, drawer))
            if witness.broken:
                breaks.add(witness.broken[0])
        self.assertTrue(verdicts.issuperset((word, may) for word in WORDS for may in (True, False)))
        self.assertEqual(breaks, {"chairs", "lost"})

    def hold(self, bench, witness, drawer):
        paper, before = drawer.draw(), whole_state(bench)
        may = witness.take(paper)
        self.assertEqual(take(bench, paper, len(witness.taken)), may, paper)
        self.assertEqual(bench.broken(), witness.broken)
        if may:
            drawer.note(paper)
            self.hold_alike(bench, witness)
        else:
            self.assertEqual(whole_state(bench), before)
        return paper[0], may

    def hold_alike(self, bench, witness):
        story = witness.story
        self.assertEqual(bench.world(), witness.world())
        self.assertEqual(bench.chairs(), sorted(story.chairs.items()))
        for term in story.lines:
            self.assertEqual((bench.line(term), bench.mark(term)), (story.lines[term], witness.mark(term)))
        for hand in range(6):
            self.assertEqual((bench.term_of(hand), bench.row_of(hand)), (witness.term(hand), story.row(hand)))


class PromiseTest(unittest.TestCase):
    """What holds of all papers that a bench with the told rules takes."""

    def test_the_sentences_of_the_promise(self):
        taken = []
        for trial in range(TRIALS * 2):
            bench, S, drawer = drawn_bench(1000 + trial, TOLD_RULES)
            outcomes = Outcomes(self)
            with self.subTest(trial=trial):
                for again in range(PAPERS * 3):
                    paper = drawer.draw()
                    if take(bench, paper):
                        drawer.note(paper)
                        outcomes.hold(paper)
                        taken.append(paper[0])
                self.assertIsNone(bench.broken())
                self.hold_settled(bench)
        self.assertEqual([word for word in WORDS if taken.count(word) < 1000], [])

    def hold_settled(self, bench):
        """Lines only grow behind their ends; so what a greater one would lack, it would lack at the end still."""
        for lesser, hand in bench.chairs():
            settled = bench.line(lesser)[:bench.mark(lesser)]
            for greater, other in bench.chairs():
                if greater > lesser:
                    self.assertEqual(bench.line(greater)[:len(settled)], settled)


if __name__ == "__main__":
    unittest.main()
