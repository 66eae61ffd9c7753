"""The seats of a hand: what it holds only while it sits, asks for votes, or chairs."""

from chairvote.rolls import set_of


class Seat:
    def word(self):
        return "none"


class Sitter(Seat):
    def word(self):
        return "sits"


class Asker(Seat):
    def __init__(self, me):
        self.voters = set_of([me])

    def word(self):
        return "asks"

    def count_in(self, hand):
        self.voters = self.voters | set_of([hand])


class Chair(Seat):
    def __init__(self, me, start):
        self.me = me
        self.start = start
        self.beat = 0
        self.beats = {}
        self.places = {}
        self.looks = []

    def word(self):
        return "chairs"

    def begin_beat(self):
        self.beat = self.beat + 1

    def hear(self, hand, beat, place):
        # Only what is news of the row calls for a letter behind it; so letters don't breed letters for ever.
        is_more = hand not in self.places or place > self.places[hand]
        self.places[hand] = max(place, self.places.get(hand, place))
        self.beats[hand] = max(beat, self.beats.get(hand, beat))
        return is_more

    def first_to_tell(self, hand):
        if hand in self.places:
            return self.places[hand] + 1
        return self.start

    def having(self, place):
        return set_of([self.me] + [hand for hand, known in self.places.items() if known >= place])

    def hearing(self, beat):
        return set_of([self.me] + [hand for hand, known in self.beats.items() if known >= beat])

    def places_known(self, last):
        # Between two of these the same hands have the row, so no other place needs to be asked for.
        return list(reversed(sorted(set([last] + list(self.places.values())))))
