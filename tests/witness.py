"""Follows the papers of several hands by the told rules, and says which of them could not be."""

from chairvote.rolls import hands_of, wins
from chairvote.shelves import Shelf


def end_of(row):
    return (row[-1][0] if row else 0, len(row))


def shelf_at(row, place):
    """The shelf behind a place, and the answer of the ask that stands there."""
    shelf, answer = Shelf(), None
    for term, what in row[:place]:
        answer = shelf.do(*what[1:]) if what[0] == "ask" else None
    return shelf, answer


class Line:
    """What is known of one term that has a chair."""

    def __init__(self, hand, row):
        self.hand = hand
        self.row = list(row)
        self.beat = 0
        self.mark = 0
        self.looks = {}


class Witness:
    def __init__(self, S):
        self.first = (S, 0)
        self.terms = {}
        self.rows = {}
        self.votes = {}
        self.asked = {}
        self.lines = {}
        self.told_places = {}
        self.told_beats = {}
        self.taken = []

    def row(self, hand):
        return self.rows.setdefault(hand, [])

    def roll_of(self, row):
        rolls = [(place, what[1:]) for place, (term, what) in enumerate(row, start=1) if what[0] == "roll"]
        return rolls[-1] if rolls else (0, self.first)

    def mark_up_to(self, term):
        return max([line.mark for other, line in self.lines.items() if other <= term], default=0)

    def take(self, paper):
        term = paper[2] if paper[0] in ("vote", "chair", "told") else paper[1]
        number = len(self.taken)
        assert term >= 1, (number, paper)
        assert getattr(self, "may_" + paper[0])(*paper[1:]), (number, paper)
        self.taken.append(paper)
        if paper[0] in ("chair", "settle"):
            self.assert_nothing_lost()

    def stands(self, term):
        return term in self.lines and self.terms.get(self.lines[term].hand, 0) == term

    def may_vote(self, hand, term, whom):
        if term < self.terms.get(hand, 0) or (hand, term) in self.votes:
            return False
        end = end_of(self.row(hand))
        if hand == whom:
            if term <= self.terms.get(hand, 0):
                return False
            self.asked[hand, term] = end
        elif (whom, term) not in self.asked or self.asked[whom, term] < end:
            return False
        self.votes[hand, term] = whom
        self.terms[hand] = term
        return True

    def may_chair(self, hand, term, voters):
        row = self.row(hand)
        if self.terms.get(hand, 0) != term or self.asked.get((hand, term)) != end_of(row) or term in self.lines:
            return False
        self.lines[term] = Line(hand, row)
        have_voted = all(self.votes.get((voter, term)) == hand for voter in hands_of(voters))
        return have_voted and wins(self.roll_of(row)[1], voters)

    def may_write(self, term, place, what):
        if not self.stands(term):
            return False
        line = self.lines[term]
        if place != len(line.row) + 1 or (what == ("start",)) != (term not in [entry[0] for entry in line.row]):
            return False
        if what[0] == "roll":
            at, (one, two) = self.roll_of(line.row)
            if at > self.mark_up_to(term):
                return False
            if two != 0 and what != ("roll", two, 0):
                return False
            if two == 0 and (what[1] != one or what[2] == 0):
                return False
        line.row.append((term, what))
        self.row(line.hand).append((term, what))
        return True

    def may_beat(self, term, beat):
        if not self.stands(term) or beat != self.lines[term].beat + 1:
            return False
        self.lines[term].beat = beat
        return True

    def may_told(self, hand, term, place, beat):
        if term not in self.lines or self.lines[term].hand == hand or term < self.terms.get(hand, 0):
            return False
        line = self.lines[term]
        if not 0 <= place <= len(line.row) or not 0 <= beat <= line.beat:
            return False
        self.terms[hand] = term
        if self.row(hand)[:place] != line.row[:place]:
            self.rows[hand] = line.row[:place]
        self.told_places[hand, term] = max(place, self.told_places.get((hand, term), 0))
        self.told_beats[hand, term] = max(beat, self.told_beats.get((hand, term), 0))
        return True

    def may_settle(self, term, place, hands):
        if not self.stands(term):
            return False
        line = self.lines[term]
        if not line.mark < place <= len(line.row) or line.row[place - 1][0] != term:
            return False
        line.mark = place
        have = all(h == line.hand or self.told_places.get((h, term), -1) >= place for h in hands_of(hands))
        return have and wins(self.roll_of(line.row)[1], hands)

    def may_answer(self, term, who, number, place, answer):
        if not self.stands(term):
            return False
        line = self.lines[term]
        if not 1 <= place <= min(self.mark_up_to(term), len(line.row)):
            return False
        return line.row[place - 1][1][:3] == ("ask", who, number) and shelf_at(line.row, place)[1] == answer

    def may_look(self, term, beat, who, name, place):
        if not self.stands(term):
            return False
        line = self.lines[term]
        places = [at for at, entry in enumerate(line.row, start=1) if entry[0] == term]
        if beat != line.beat or beat < 1 or beat in line.looks or not places:
            return False
        if [1 for (hand, other), told in self.told_beats.items() if other == term and told >= beat]:
            return False
        line.looks[beat] = (who, name, place)
        return place == max(line.mark, places[0])

    def may_seen(self, term, beat, who, name, place, value, hands):
        if not self.stands(term):
            return False
        line = self.lines[term]
        look = line.looks.get(beat)
        if look is None or look[:2] != (who, name):
            return False
        line.looks[beat] = None
        if not look[2] <= place <= min(self.mark_up_to(term), len(line.row)):
            return False
        heard = all(h == line.hand or self.told_beats.get((h, term), -1) >= beat for h in hands_of(hands))
        return heard and wins(self.roll_of(line.row)[1], hands) and shelf_at(line.row, place)[0].value_of(name) == value

    def assert_nothing_lost(self):
        for lesser, one in self.lines.items():
            for greater, two in self.lines.items():
                if lesser < greater:
                    assert two.row[:one.mark] == one.row[:one.mark], ("lost", greater)
