"""Says of each paper whether a bench takes it, by reading anew, each time, all papers that were taken before it."""

from tests.outcomes import replayed

KINDS = {
    "vote": ("hand", "term", "whom"), "chair": ("hand", "term", "voters"), "write": ("term", "place", "what"),
    "beat": ("term", "beat"), "told": ("hand", "term", "place", "beat"), "settle": ("term", "place", "hands"),
    "answer": ("term", "who", "number", "place", "answer"), "look": ("term", "beat", "who", "name", "place"),
    "seen": ("term", "beat", "who", "name", "place", "value", "hands"),
}


def end_of(row):
    return (row[-1][0] if row else 0, len(row))


def is_in(hand, S):
    return S >> hand & 1 == 1


class Story:
    """Rows and lines, as a list of papers that were taken leads to them."""

    def __init__(self, papers):
        self.rows, self.lines, self.chairs = {}, {}, {}
        for word, *parts in papers:
            if word == "chair" and parts[1] not in self.chairs:
                self.chairs[parts[1]] = parts[0]
                self.lines[parts[1]] = list(self.row(parts[0]))
            if word == "write":
                self.lines[parts[0]].append((parts[0], parts[2]))
                self.row(self.chairs[parts[0]]).append((parts[0], parts[2]))
            if word == "told":
                row, line = self.row(parts[0]), self.lines[parts[1]]
                if row[:parts[2]] != line[:parts[2]]:
                    row[:] = line[:parts[2]]

    def row(self, hand):
        return self.rows.setdefault(hand, [])


class Witness:
    def __init__(self, S, text="once best own most"):
        self.first = (S, 0)
        self.words = text.split(" ")
        self.taken = []
        self.broken = None
        self.story = Story([])

    def take(self, paper):
        """True where a bench takes the paper."""
        if self.broken or not self.may(paper):
            return False
        if paper[0] == "chair" and paper[2] in self.story.chairs:
            self.broken = ("chairs", paper[2])
        self.taken.append(paper)
        self.story = Story(self.taken)
        if paper[0] in ("chair", "settle") and not self.broken:
            lost = [term for term in self.story.lines if self.has_lost(term)]
            self.broken = ("lost", min(lost)) if lost else None
        return True

    def has_lost(self, term):
        lines = self.story.lines
        marks = [(other, self.mark(other)) for other in lines if other < term]
        return any(lines[term][:mark] != lines[other][:mark] for other, mark in marks)

    def may(self, paper):
        names = KINDS.get(paper[0]) if paper else None
        if names is None or len(names) != len(paper) - 1:
            return False
        parts = dict(zip(names, paper[1:]))
        if parts["term"] < 1:
            return False
        return all(getattr(self, "asked_of_" + paper[0])(**parts))

    def papers(self, word, **parts):
        """Those of this kind that were taken, with these parts, each as a dict."""
        of_kind = [dict(zip(KINDS[word], paper[1:])) for paper in self.taken if paper[0] == word]
        return [paper for paper in of_kind if all(paper[name] == part for name, part in parts.items())]

    def term(self, hand):
        terms = [paper[2] for paper in self.taken if paper[0] in ("vote", "told") and paper[1] == hand]
        return terms[-1] if terms else 0

    def votes(self, hand, term):
        return [paper["whom"] for paper in self.papers("vote", hand=hand, term=term)]

    def asked_with(self, hand, term):
        paper = ("vote", hand, term, hand)
        if paper not in self.taken:
            return None
        return end_of(Story(self.taken[:self.taken.index(paper)]).row(hand))

    def mark(self, term):
        return max((paper["place"] for paper in self.papers("settle", term=term)), default=0)

    def mark_up_to(self, term):
        return max((self.mark(other) for other in self.story.lines if other <= term), default=0)

    def roll(self, entries):
        rolls = [(place, what[1:]) for place, (term, what) in enumerate(entries, 1) if what[0] == "roll"]
        return rolls[-1] if rolls else (0, self.first)

    def wins(self, roll, S):
        for part in roll:
            size = part.bit_count()
            have = (part & S).bit_count()
            if part and (have * 2 < size or (have * 2 == size and self.words[3] == "most")):
                return False
        return True

    def stands(self, term):
        return term in self.story.chairs and self.term(self.story.chairs[term]) == term

    def told(self, hand, term, part, least):
        return [1 for paper in self.papers("told", hand=hand, term=term) if paper[part] >= least] != []

    def all_told(self, term, hands, part, least):
        chair = self.story.chairs[term]
        return all(h == chair or self.told(h, term, part, least) for h in range(60) if is_in(h, hands))

    def asked_of_vote(self, hand, term, whom):
        yield term >= self.term(hand)
        yield (whom not in self.votes(hand, term)) if self.words[0] == "free" else not self.votes(hand, term)
        if whom == hand:
            yield term > self.term(hand)
        else:
            yield self.asked_with(whom, term) is not None
            yield self.words[1] == "any" or self.asked_with(whom, term) >= end_of(self.story.row(hand))

    def asked_of_chair(self, hand, term, voters):
        yield self.term(hand) == term
        yield self.asked_with(hand, term) == end_of(self.story.row(hand))
        yield all(hand in self.votes(voter, term) for voter in range(60) if is_in(voter, voters))
        yield self.wins(self.roll(self.story.row(hand))[1], voters)
        yield self.story.chairs.get(term) != hand

    def asked_of_write(self, term, place, what):
        yield self.stands(term)
        line = self.story.lines[term]
        yield place == len(line) + 1
        yield (what == ("start",)) == (term not in [entry[0] for entry in line])
        if what[0] == "roll":
            at, (one, two) = self.roll(line)
            yield at <= self.mark_up_to(term)
            yield what == ("roll", two, 0) if two else (what[1] == one and what[2] != 0)

    def asked_of_beat(self, term, beat):
        yield self.stands(term)
        yield beat == len(self.papers("beat", term=term)) + 1

    def asked_of_told(self, hand, term, place, beat):
        yield term in self.story.chairs and self.story.chairs[term] != hand
        yield term >= self.term(hand)
        yield place in range(len(self.story.lines[term]) + 1)
        yield beat in range(len(self.papers("beat", term=term)) + 1)

    def asked_of_settle(self, term, place, hands):
        yield self.stands(term)
        line = self.story.lines[term]
        yield self.mark(term) < place <= len(line)
        yield self.words[2] == "old" or line[place - 1][0] == term
        yield self.all_told(term, hands, "place", place)
        yield self.wins(self.roll(line)[1], hands)

    def asked_of_answer(self, term, who, number, place, answer):
        yield self.stands(term)
        line = self.story.lines[term]
        yield 1 <= place <= self.mark_up_to(term)
        yield place <= len(line)
        yield line[place - 1][1][:3] == ("ask", who, number)
        yield (who, number, answer) in replayed(line[:place])[1]

    def asked_of_look(self, term, beat, who, name, place):
        yield self.stands(term)
        yield beat == len(self.papers("beat", term=term)) and beat >= 1
        yield not self.papers("told", term=term, beat=beat)
        yield not self.papers("look", term=term, beat=beat)
        places = [k for k, entry in enumerate(self.story.lines[term], 1) if entry[0] == term]
        yield places != []
        yield place == max(self.mark(term), min(places))

    def asked_of_seen(self, term, beat, who, name, place, value, hands):
        yield self.stands(term)
        line = self.story.lines[term]
        looks = self.papers("look", term=term, beat=beat, who=who, name=name)
        yield looks != []
        yield not self.papers("seen", term=term, beat=beat)
        yield looks[0]["place"] <= place <= self.mark_up_to(term)
        yield place <= len(line)
        yield self.all_told(term, hands, "beat", beat)
        yield self.wins(self.roll(line)[1], hands)
        yield dict(replayed(line[:place])[0]).get(name, 0) == value

    def greatest_place(self, hand, term):
        return max(paper["place"] for paper in self.papers("told", hand=hand, term=term))

    def world(self):
        hands = sorted({paper[1] for paper in self.taken if paper[0] in ("vote", "told")})
        votes = sorted({paper[1:3] for paper in self.taken if paper[0] == "vote"})
        tolds = sorted({paper[1:3] for paper in self.taken if paper[0] == "told"})
        places = [key + (self.greatest_place(*key),) for key in tolds]
        return (
            tuple((hand, self.term(hand)) for hand in hands),
            tuple(key + (sum(1 << whom for whom in self.votes(*key)),) for key in votes),
            tuple(key + (self.asked_with(*key),) for key in votes if self.asked_with(*key) is not None),
            tuple((hand, tuple(row)) for hand, row in sorted(self.story.rows.items()) if row),
            tuple((term, hand, tuple(self.story.lines[term])) for term, hand in sorted(self.story.chairs.items())),
            tuple(place for place in places if place[2] > 0),
            tuple((term, self.mark(term)) for term in sorted(self.story.chairs) if self.mark(term) > 0),
        )
