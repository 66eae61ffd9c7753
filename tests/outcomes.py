"""What asks lead to, and what is promised of the answers that papers tell."""


def replayed(entries):
    """The shelf, told, to which the asks of these entries lead, each of them done once."""
    values, answers = {}, {}
    for term, what in entries:
        if what[0] == "ask" and what[1:3] not in answers:
            order, before = what[3], values.get(what[3][1], 0)
            after, answer = {
                "put": (order[2], before),
                "add": (before + order[2], before + order[2]),
                "swap": (order[-1], 1) if before == order[2] else (before, 0),
            }[order[0]]
            values[order[1]], answers[what[1:3]] = after, answer
    told = tuple(sorted((name, value) for name, value in values.items() if value != 0))
    return told, tuple(sorted(ask + (answer,) for ask, answer in answers.items()))


class Outcomes:
    """No term has two chairs, an ask has one answer, and no look is answered by a shelf older than what was out."""

    def __init__(self, test):
        self.test = test
        self.chairs = {}
        self.answered = {}
        self.looks = {}
        self.out = 0

    def hold(self, paper):
        if paper[0] == "chair":
            self.test.assertNotIn(paper[2], self.chairs)
            self.chairs[paper[2]] = paper[1]
        if paper[0] == "answer":
            self.test.assertEqual(self.answered.setdefault(paper[2:4], paper[5]), paper[5])
            self.out = max(self.out, paper[4])
        if paper[0] == "look":
            self.looks[paper[1:5]] = self.out
        if paper[0] == "seen":
            self.test.assertGreaterEqual(paper[5], self.looks.pop(paper[1:5]))
            self.out = max(self.out, paper[5])
