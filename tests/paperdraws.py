"""Draws papers, of no hall, for a bench: mostly such as it may take, and some with one part gone wrong."""

from chairvote.errors import BadPaper
from tests.outcomes import replayed

START = ("start",)
WORDS = ("vote", "chair", "write", "beat", "told", "settle", "answer", "look", "seen")
WEIGHTS = (
    (3, 2, 2, 1, 4, 2, 1, 1, 1),
    (6, 6, 4, 1, 8, 5, 1, 1, 1),
    (1, 2, 6, 2, 9, 6, 2, 2, 3),
    (1, 2, 2, 4, 9, 3, 2, 5, 5),
)
FIRST_TERMS = (0, 0, 0, 5, 10 ** 45)


def take(bench, paper, count=None):
    """Whether a bench takes a paper; it refuses with the number of papers that it took, where this is told."""
    try:
        bench.take(paper)
    except BadPaper as refusal:
        assert count in (None, refusal.at), (paper, refusal.at)
        return False
    return True


class PaperDrawer:
    def __init__(self, bench, S, number, chance, wrong=0.2):
        self.bench = bench
        self.first = S
        self.number = number
        self.chance = chance
        self.wrong = wrong
        self.weights = chance.choice(WEIGHTS)
        self.term = chance.choice(FIRST_TERMS)
        self.asked = []
        self.beats = {}
        self.told = {}
        self.looks = []

    def draw(self):
        """A paper that the bench may take or not."""
        paper = None
        while paper is None:
            paper = getattr(self, "draw_" + self.chance.choices(WORDS, self.weights)[0])()
        return self.gone_wrong(paper) if self.chance.random() < self.wrong else paper

    def note(self, paper):
        """The bench took it."""
        word, *parts = paper
        if word == "vote" and parts[0] == parts[2]:
            self.asked.append((parts[0], parts[1]))
        if word == "beat":
            self.beats[parts[0]] = parts[1]
        if word == "told":
            place, beat = self.told.get(tuple(parts[:2]), (0, 0))
            self.told[tuple(parts[:2])] = (max(place, parts[2]), max(beat, parts[3]))
        if word == "look":
            self.looks.append(tuple(parts))

    def gone_wrong(self, paper):
        parts = list(paper)
        k = self.chance.randrange(len(parts))
        if k == 0:
            return self.chance.choice((paper[:-1], paper + (0,), (paper[0] + "s",) + paper[1:]))
        if isinstance(parts[k], int):
            parts[k] = max(0, parts[k] + self.chance.choice((-2, -1, -1, 1, 1, 2)))
        elif isinstance(parts[k], str):
            parts[k] = self.chance.choice("abc")
        else:
            parts[k] = self.what()
        return tuple(parts)

    def hand(self):
        return self.chance.randrange(self.number)

    def of_late(self, things):
        """One of them, of the last ones more often."""
        return things[-1 - int(len(things) * self.chance.random() ** 3)]

    def chair(self):
        chairs = self.bench.chairs()
        standing = [(term, hand) for term, hand in chairs if self.bench.term_of(hand) == term]
        if standing and self.chance.random() < 0.9:
            chairs = standing
        return self.of_late(chairs) if chairs else (None, None)

    def what(self):
        order = self.chance.choice((
            ("put", self.name(), self.chance.randrange(3)), ("add", self.name(), self.chance.choice((1, -4, 10 ** 44))),
            ("swap", self.name(), self.chance.randrange(3), self.chance.randrange(3)),
        ))
        ask = ("ask", self.chance.randrange(2), self.chance.randrange(6), order)
        sets = range(1 << self.number)
        return self.chance.choice((START, ask, ask, ("roll", self.chance.choice(sets), self.chance.choice(sets))))

    def name(self):
        return self.chance.choice("ab")

    def draw_vote(self):
        hand = self.hand()
        if self.asked and self.chance.random() < 0.7:
            whom, term = self.of_late(self.asked)
            return ("vote", hand, term, whom)
        term = max(self.term, self.bench.term_of(hand)) + self.chance.choice((1, 1, 1, 2))
        return ("vote", hand, term, hand)

    def draw_chair(self):
        if not self.asked:
            return None
        hand, term = self.of_late(self.asked)
        voters = [h for h in range(self.number) if self.bench.votes_of(h, term) >> hand & 1]
        return ("chair", hand, term, self.some_of(voters))

    def some_of(self, hands):
        left_out = self.hand() if self.chance.random() < 0.2 else None
        return sum(1 << hand for hand in hands if hand != left_out)

    def draw_write(self):
        term, hand = self.chair()
        if term is None:
            return None
        line = self.bench.line(term)
        what = START if term not in [entry[0] for entry in line] else self.what()
        if what[0] == "roll" and self.chance.random() < 0.8:
            one, two = ([(self.first, 0)] + [entry[1][1:] for entry in line if entry[1][0] == "roll"])[-1]
            what = ("roll", two, 0) if two else ("roll", one, what[2])
        return ("write", term, len(line) + 1, what)

    def draw_beat(self):
        term, hand = self.chair()
        return None if term is None else ("beat", term, self.beats.get(term, 0) + 1)

    def draw_told(self):
        term, hand = self.chair()
        if term is None:
            return None
        last, beat = len(self.bench.line(term)), self.beats.get(term, 0)
        place = self.chance.choice((last, last, last, self.chance.randrange(last + 1)))
        return ("told", self.hand(), term, place, self.chance.choice((beat, beat, self.chance.randrange(beat + 1))))

    def draw_settle(self):
        term, hand = self.chair()
        if term is None or self.bench.mark(term) == len(self.bench.line(term)):
            return None
        place = self.chance.randrange(self.bench.mark(term), len(self.bench.line(term))) + 1
        return ("settle", term, place, self.some_of(self.told_of(term, hand, 0, place)))

    def told_of(self, term, chair, part, least):
        return [h for h in range(self.number) if h == chair or self.told.get((h, term), (0, 0))[part] >= least]

    def draw_answer(self):
        term, hand = self.chair()
        line = self.bench.line(term)
        asks = [place for place, entry in enumerate(line, start=1) if entry[1][0] == "ask"]
        if not asks:
            return None
        place = self.chance.choice(asks)
        ask = line[place - 1][1][1:3]
        return ("answer", term) + ask + (place, {a[:2]: a[2] for a in replayed(line[:place])[1]}[ask])

    def draw_look(self):
        term, hand = self.chair()
        starts = [place for place, entry in enumerate(self.bench.line(term), start=1) if entry[0] == term] or [0]
        place = max(self.bench.mark(term), starts[0])
        return None if term is None else ("look", term, self.beats.get(term, 0), self.hand(), self.name(), place)

    def draw_seen(self):
        if not self.looks:
            return None
        term, beat, who, name, place = self.of_late(self.looks)
        place = self.chance.choice((place, max(place, self.bench.mark(term))))
        value = dict(replayed(self.bench.line(term)[:place])[0]).get(name, 0)
        hands = self.some_of(self.told_of(term, dict(self.bench.chairs())[term], 1, beat))
        return ("seen", term, beat, who, name, place, value, hands)
