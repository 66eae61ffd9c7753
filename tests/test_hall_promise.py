"""What the whole promises of every hall, held behind each of many drawn deeds."""

import random
import unittest

from chairvote.halls import Hall
from tests.halldeeds import Drawer, carry_all, chaired_hall, drawn_halls, hall_state, lose_all
from tests.outcomes import replayed
from tests.promise import Promise

TRIALS = 108
DEEDS = 260


def carry_but_to(hall, h):
    """Letters to that hand are lost."""
    while hall.road():
        if hall.road()[0][2] == h:
            hall.lose(0)
        else:
            hall.carry(0)


class DrawnTest(unittest.TestCase):
    def test_many_drawn_deeds(self):
        told, done = set(), set()
        for trial, (hall, number, S, chance) in enumerate(drawn_halls(TRIALS)):
            drawer, promise = Drawer(hall, number, chance), Promise(self, hall, number, S)
            with self.subTest(trial=trial):
                for deed in range(DEEDS):
                    done.add(drawer.draw())
                    promise.hold()
            told.update(paper[0] for paper in hall.papers())
        self.assertEqual(done, set(Drawer.KINDS))
        self.assertEqual(len(told), 9)

    def test_the_same_deeds_lead_to_the_same_hall(self):
        for trial in range(6):
            states = []
            for again in range(2):
                hall = Hall(5, 31)
                drawer = Drawer(hall, 5, random.Random(trial))
                for deed in range(DEEDS):
                    drawer.draw()
                states.append(hall_state(hall, 5))
            self.assertEqual(states[0], states[1])


class HeldTest(unittest.TestCase):
    """Deeds of which one sentence of the promise hangs each, told apart from drawn ones."""

    def test_two_that_ask_in_one_term_are_not_both_chairs(self):
        hall = Hall(4, 15)
        promise = Promise(self, hall, 4, 15)
        hall.ring(0)
        hall.ring(3)
        carry_all(hall)
        promise.hold()
        self.assertEqual([hall.view(h)[:3] for h in range(4)], [
            ("chairs", 1, 0), ("sits", 1, 0), ("sits", 1, 0), ("sits", 1, 3),
        ])

    def test_doubled_votes_make_no_chair(self):
        hall = Hall(5, 31)
        hall.ring(0)
        hall.carry(0)
        for again in range(3):
            hall.double(3)
        for again in range(4):
            hall.carry(3)
        self.assertEqual(hall.view(0)[0], "asks")
        self.assertEqual([paper for paper in hall.papers() if paper[0] == "chair"], [])

    def test_a_hand_that_lacks_what_is_settled_takes_no_chair(self):
        hall = chaired_hall(3, 7)
        promise = Promise(self, hall, 3, 7)
        hall.ask(0, 5, 1, ("add", "a", 3))
        hall.lose(1)
        carry_all(hall)
        promise.hold()
        self.assertEqual(hall.view(0)[4], 2)
        for again in range(4):
            hall.ring(2)
            carry_all(hall)
            promise.hold()
            self.assertEqual(hall.view(2)[0], "asks")
        hall.ring(1)
        carry_all(hall)
        hall.ring(1)
        carry_all(hall)
        promise.hold()
        self.assertEqual([view[0] for view in hall_state(hall, 3)[3]], ["sits", "chairs", "sits"])

    def test_a_chair_that_was_left_answers_no_look(self):
        hall = chaired_hall(3, 7)
        promise = Promise(self, hall, 3, 7)
        hall.ask(0, 5, 1, ("add", "a", 3))
        hall.carry(0)
        lose_all(hall)
        hall.ring(1)
        carry_but_to(hall, 0)
        hall.ask(1, 5, 2, ("add", "a", 4))
        carry_but_to(hall, 0)
        self.assertEqual([view[0] for view in hall_state(hall, 3)[3]], ["chairs", "chairs", "sits"])
        promise.hold()
        self.assertEqual([paper[0] for paper in hall.answers()], ["answer", "answer"])
        hall.look(0, 9, "a")
        carry_all(hall)
        promise.hold()
        self.assertEqual([paper[0] for paper in hall.answers()], ["answer", "answer"])
        self.assertEqual(hall.view(0)[:4], ("sits", 2, None, None))

    def test_an_ask_that_is_handed_to_two_chairs_is_done_once(self):
        hall = chaired_hall(3, 7)
        promise = Promise(self, hall, 3, 7)
        hall.ask(0, 5, 1, ("add", "a", 3))
        carry_all(hall)
        hall.ring(1)
        carry_all(hall)
        hall.ask(1, 5, 1, ("add", "a", 3))
        carry_all(hall)
        promise.hold()
        self.assertEqual([paper[5] for paper in hall.answers()], [3, 3, 3])
        self.assertEqual(hall.view(1)[6], ((("a", 3),), ((5, 1, 3),)))

    def test_a_replayed_shelf(self):
        entries = [
            (1, ("start",)), (1, ("ask", 5, 2, ("put", "b", 4))), (2, ("ask", 5, 2, ("put", "b", 9))),
            (2, ("roll", 1, 2)), (2, ("ask", 3, 2, ("swap", "b", 4, 7))), (2, ("ask", 3, 1, ("add", "a", 0))),
            (3, ("ask", 3, 3, ("swap", "b", 4, 8))),
        ]
        self.assertEqual(replayed(entries), ((("b", 7),), ((3, 1, 0), (3, 2, 1), (3, 3, 0), (5, 2, 0))))


if __name__ == "__main__":
    unittest.main()
