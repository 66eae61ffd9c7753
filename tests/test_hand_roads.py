"""Several hands on a bad road: what the whole promises of them, held after every deed."""

import random
import unittest

from tests.roads import Road
from tests.witness import Witness, end_of

SIZES = ((1, 1), (2, 3), (3, 7), (3, 3), (4, 15), (5, 31), (5, 7), (9, 511), (9, 21))
TERMS = (0, 0, 3, 10 ** 45)


class RoadTest(unittest.TestCase):
    def roads(self, trials, deeds):
        for trial in range(trials):
            chance = random.Random(1000 * deeds + trial)
            count, S = SIZES[trial % len(SIZES)]
            yield Road(count, S, TERMS[trial % len(TERMS)]), Witness(S), chance

    def take_papers(self, road, witness):
        for paper in road.papers[len(witness.taken):]:
            witness.take(paper)

    def assert_as_papers_tell(self, road, witness):
        for h, hand in road.hands.items():
            told = witness.row(h)
            self.assertEqual(hand.row.end(), end_of(told))
            self.assertEqual(hand.row.entries(), told[hand.row.base:])
            self.assertEqual(hand.vote, witness.votes.get((h, hand.term)))

    def assert_alike(self, road):
        shelves = {}
        for hand in road.hands.values():
            self.assertEqual(shelves.setdefault(hand.done, hand.shelf.told()), hand.shelf.told())
            self.assertLessEqual(hand.row.base, hand.done)
            self.assertEqual(hand.done, hand.settled)
            self.assertLessEqual(hand.settled, hand.row.last())
        chairs = [hand.term for hand in road.hands.values() if hand.seat.word() == "chairs"]
        self.assertEqual(len(chairs), len(set(chairs)))

    def assert_answers_alike(self, road):
        answers = {}
        for paper in road.papers:
            if paper[0] == "answer":
                self.assertEqual(answers.setdefault(paper[2:4], paper[5]), paper[5])

    def test_papers_are_taken_and_rows_are_what_they_tell(self):
        kinds = set()
        for road, witness, chance in self.roads(180, 400):
            for deed in range(400):
                road.deed(chance)
                self.take_papers(road, witness)
                self.assert_alike(road)
                if deed % 10 == 0:
                    self.assert_as_papers_tell(road, witness)
            self.assert_answers_alike(road)
            kinds.update(paper[0] for paper in road.papers)
        self.assertEqual(len(kinds), 9)

    def assert_calm(self, road, h):
        hand = road.hands[h]
        self.assertEqual(hand.seat.word(), "chairs")
        self.assertEqual(hand.row.roll()[1], 0)
        self.assertEqual(hand.settled, hand.row.last())
        for other in road.roll_hands(h):
            self.assertEqual(other.row.end(), hand.row.end())
            base = max(other.row.base, hand.row.base)
            self.assertEqual(other.row.entries()[base - other.row.base:], hand.row.entries()[base - hand.row.base:])

    def test_calm(self):
        for road, witness, chance in self.roads(240, 150):
            for deed in range(150):
                road.deed(chance)
            h = road.calm()
            self.assert_calm(road, h)
            self.assert_handed_in_is_answered(road, h)
            self.assert_changed(road, h, chance.randrange(1, 1 << len(road.hands)))
            self.take_papers(road, witness)
            self.assert_as_papers_tell(road, witness)

    def assert_handed_in_is_answered(self, road, h):
        count = len(road.papers)
        road.ask(h, ("put", "d", 77), 10 ** 40)
        road.carry_all()
        self.assertIn(("answer", 1, 10 ** 40), [(p[0],) + p[2:4] for p in road.papers[count:]])
        count = len(road.papers)
        road.look(h, "d")
        road.carry_all()
        seen = [paper for paper in road.papers[count:] if paper[0] == "seen"]
        self.assertEqual([paper[3:5] + paper[6:7] for paper in seen], [(2, "d", 77)])

    def assert_changed(self, road, h, S):
        has_greater = max(hand.term for hand in road.hands.values()) > road.hands[h].term
        road.letters += road.hands[h].change(S)
        road.carry_all()
        if has_greater:
            for again in range(2):
                road.ring(h)
                road.carry_all()
        self.assertEqual(road.hands[h].row.roll(), (S, 0))
        self.assert_calm(road, h)


if __name__ == "__main__":
    unittest.main()
