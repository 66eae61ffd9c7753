"""The papers of halls, taken by a bench with the hall's first roll; and how long many papers take."""

import unittest

from chairvote.benches import Bench
from tests.benching import BenchTest, elected
from tests.halldeeds import Drawer, carry_all, chaired_hall, drawn_halls, row_of
from tests.making import START, ask
from tests.paperdraws import take
from tests.witness import Witness, end_of


class HallTest(unittest.TestCase):
    def assert_told(self, bench, hall, number):
        """Rows, as far as they are kept, ends, and votes are what the papers tell."""
        for h in range(number):
            row, told, view = row_of(hall, h), bench.row_of(h), hall.view(h)
            self.assertEqual((row.end(), row.entries()), (end_of(told), told[row.base:]))
            if view[2] is not None:
                self.assertEqual(bench.votes_of(h, view[1]), 1 << view[2])

    def test_a_bench_and_a_witness_take_all_papers_of_drawn_halls(self):
        for hall, number, S, chance in drawn_halls(18, seed=9000):
            drawer, bench, witness = Drawer(hall, number, chance), Bench(S), Witness(S)
            for deed in range(120):
                drawer.draw()
            for paper in hall.papers():
                self.assertTrue(witness.take(paper), paper)
                self.assertIsNone(bench.take(paper))
            self.assertEqual((bench.broken(), bench.world()), (None, witness.world()))
            self.assert_told(bench, hall, number)

    def test_a_bench_takes_all_papers_of_halls_with_many_deeds(self):
        for hall, number, S, chance in drawn_halls(9, seed=9100):
            drawer, bench = Drawer(hall, number, chance), Bench(S)
            for deed in range(900):
                drawer.draw()
            for paper in hall.papers()[:5000]:
                bench.take(paper)
            self.assertIsNone(bench.broken())
            if len(hall.papers()) <= 5000:
                self.assert_told(bench, hall, number)

    def test_a_hall_whose_hands_are_brought_in_and_taken_out(self):
        hall, bench = chaired_hall(9, 1), Bench(1)
        for number, S in enumerate((3, 6, 28, 510, 511, 1 << 8, 15, 2)):
            hall.change(0, S)
            hall.ask(0, 5, number, ("add", "a", 1))
            carry_all(hall)
            self.assertEqual(row_of(hall, 0).roll(), (S, 0))
        for paper in hall.papers():
            bench.take(paper)
        self.assertIsNone(bench.broken())
        self.assert_told(bench, hall, 9)

    def test_papers_in_another_order_or_with_another_first_roll(self):
        hall = chaired_hall(3, 7)
        hall.ask(0, 5, 1, ("add", "a", 1))
        carry_all(hall)
        papers = hall.papers()
        self.assertTrue(all(take(bench, paper) for bench in [Bench(7)] for paper in papers))
        self.assertFalse(all(take(bench, paper) for bench in [Bench(7)] for paper in reversed(papers)))
        self.assertFalse(all(take(bench, paper) for bench in [Bench(31)] for paper in papers))


class ManyTest(BenchTest):
    def test_five_thousand_papers_with_long_lines(self):
        self.begin(*elected(0, 1), ("write", 1, 1, START), S=1)
        for place in range(2, 401):
            self.takes(("write", 1, place, ask(place)), ("settle", 1, place, 1))
            self.takes(("answer", 1, 0, place, place, place - 1))
        for beat in range(1, 1000):
            self.takes(("beat", 1, beat), ("look", 1, beat, 5, "a", 400), ("seen", 1, beat, 5, "a", 400, 399, 1))
        self.assertEqual((len(self.bench.line(1)), self.bench.mark(1)), (400, 400))

    def test_five_thousand_papers_with_many_terms(self):
        self.begin(*elected(0, 1), ("write", 1, 1, START), S=1, text="once best old most")
        self.takes(*[("write", 1, place, ask(place)) for place in range(2, 401)])
        for term in range(2, 1500):
            self.takes(("vote", 0, term, 0), ("chair", 0, term, 1), ("settle", term, 400, 1))
        self.assertEqual((len(self.bench.chairs()), self.bench.broken()), (1499, None))


if __name__ == "__main__":
    unittest.main()
