"""Beats, answers and looks as papers tell them: what those who ask a chair are answered."""

from chairvote.lists import answer_at, shelf_at
from chairvote.rolls import hands_of


def is_answer(line, who, number, place, answer):
    what = line[place - 1][1]
    return what[:3] == ("ask", who, number) and answer_at(line, place) == answer


def is_value(line, name, place, value):
    return shelf_at(line, place).value_of(name) == value


class Replies:
    # A look is a tuple (who, name, place), known by its term and beat.
    def __init__(self):
        self.beats = {}
        self.heard = {}
        self.looks = {}
        self.seen = {}

    def beat_of(self, term):
        return self.beats.get(term, 0)

    def may_begin(self, term, beat):
        return beat == self.beat_of(term) + 1

    def begin(self, term, beat):
        self.beats[term] = beat

    def may_hear(self, term, beat):
        return 0 <= beat and beat <= self.beat_of(term)

    def beat_told(self, hand, term):
        return self.heard.get((hand, term), 0)

    def hear(self, hand, term, beat):
        self.heard[(hand, term)] = max(beat, self.beat_told(hand, term))

    def may_look(self, term, beat):
        if beat < 1 or beat != self.beat_of(term) or (term, beat) in self.looks:
            return False
        # An answer that was on its way ahead of the look says nothing of what came out since.
        return all([told < beat for key, told in self.heard.items() if key[1] == term])

    def look(self, term, beat, look):
        self.looks[(term, beat)] = look

    def may_see(self, term, beat, look):
        if (term, beat) not in self.looks or (term, beat) in self.seen:
            return False
        asked = self.looks[(term, beat)]
        return asked[:2] == look[:2] and asked[2] <= look[2]

    def have_beat(self, chair, term, beat, hands):
        return all([hand == chair or self.beat_told(hand, term) >= beat for hand in hands_of(hands)])

    def see(self, term, beat):
        self.seen[(term, beat)] = True

    def twin(self):
        like = Replies()
        like.beats = dict(self.beats)
        like.heard = dict(self.heard)
        like.looks = dict(self.looks)
        like.seen = dict(self.seen)
        return like
