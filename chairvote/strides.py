"""Rows and lines as papers tell them: what chairs write, what hands are told, and what chairs settle."""

from chairvote.lists import are_alike, led_by, roll_of, roll_place_of, start_place_of
from chairvote.rolls import hands_of


class Strides:
    # Rows and lines are tuples here: twins share them, and none can be changed through another.
    def __init__(self, first_roll, rules):
        self.first_roll = first_roll
        self.rules = rules
        self.rows = {}
        self.lines = {}
        self.marks = {}
        self.places = {}

    def row_of(self, hand):
        return self.rows.get(hand, ())

    def line(self, term):
        return self.lines.get(term, ())

    def mark(self, term):
        return self.marks.get(term, 0)

    def mark_up_to(self, term):
        return max([mark for other, mark in self.marks.items() if other <= term], default=0)

    def place_told(self, hand, term):
        return self.places.get((hand, term), 0)

    def row_roll(self, hand):
        return roll_of(self.row_of(hand), self.first_roll)

    def line_roll(self, term):
        return roll_of(self.line(term), self.first_roll)

    def are_winners(self, term, hands):
        return self.rules.wins(self.line_roll(term), hands)

    def begin_line(self, hand, term):
        self.lines[term] = self.row_of(hand)

    def may_write(self, term, place, what):
        line = self.line(term)
        if place != len(line) + 1:
            return False
        is_first = start_place_of(line, term) is None
        if is_first != (what == ("start",)):
            return False
        return what[0] != "roll" or self.may_change(term, what)

    def may_change(self, term, what):
        # Two steps from one roll may lead to sets that have no hand in common, so each waits for the one ahead.
        if roll_place_of(self.line(term)) > self.mark_up_to(term):
            return False
        roll = self.line_roll(term)
        if roll[1] == 0:
            return what[1] == roll[0] and what[2] != 0
        return what == ("roll", roll[1], 0)

    def write(self, hand, term, what):
        entry = (term, what)
        self.lines[term] = self.line(term) + (entry,)
        self.rows[hand] = self.row_of(hand) + (entry,)

    def may_tell(self, term, place):
        return 0 <= place and place <= len(self.line(term))

    def tell(self, hand, term, place):
        self.rows[hand] = led_by(self.line(term), self.row_of(hand), place)
        self.places[(hand, term)] = max(place, self.place_told(hand, term))

    def may_settle(self, chair, term, place, hands):
        line = self.line(term)
        if place <= self.mark(term) or place > len(line):
            return False
        if self.rules.own and line[place - 1][0] != term:
            return False
        return self.have_place(chair, term, place, hands) and self.are_winners(term, hands)

    def have_place(self, chair, term, place, hands):
        return all([hand == chair or self.place_told(hand, term) >= place for hand in hands_of(hands)])

    def settle(self, term, place):
        self.marks[term] = place

    def settled_by(self, term):
        # What a lesser term's chair settled stands in this line too, as far as it reaches.
        return min(self.mark_up_to(term), len(self.line(term)))

    def lost_behind(self, term):
        # Lines only grow and keep what is marked; so only pairs with the term that changed can have come apart.
        for other in sorted(self.lines):
            if not self.is_kept(min(other, term), max(other, term)):
                return max(other, term)
        return None

    def is_kept(self, lesser, greater):
        mark = self.mark(lesser)
        return mark == 0 or are_alike(self.line(lesser), self.line(greater), mark)

    def rows_known(self):
        return tuple([pair for pair in sorted(self.rows.items()) if len(pair[1]) > 0])

    def told_known(self):
        return tuple([key + (place,) for key, place in sorted(self.places.items()) if place > 0])

    def marks_known(self):
        return tuple(sorted(self.marks.items()))

    def twin(self):
        like = Strides(self.first_roll, self.rules)
        like.rows = dict(self.rows)
        like.lines = dict(self.lines)
        like.marks = dict(self.marks)
        like.places = dict(self.places)
        return like
