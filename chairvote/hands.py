"""A hand: what it does with its bell, with each letter, and with asks, looks and changes."""

from chairvote.books import Book
from chairvote.errors import Busy, NoChair, NoRoll, NotMine
from chairvote.rolls import hands_of, members, wins
from chairvote.seats import Asker, Chair, Sitter
from chairvote.shelves import shelf_of

MOST_TOLD = 4


class Hand:
    def __init__(self, me, book, note=None):
        self.me = me
        self.note = note
        self.term = book.term
        self.vote = book.vote
        self.row = book.row.twin()
        self.kept = book.kept
        self.settled = self.row.base
        self.done = self.row.base
        self.shelf = shelf_of(book.kept)
        self.chair = None
        self.seat = Sitter()

    def book(self):
        return Book(self.term, self.vote, self.row, self.kept)

    def tell_paper(self, paper):
        note = self.note
        if note is not None:
            note(paper)

    def is_chair(self):
        return isinstance(self.seat, Chair)

    def others(self):
        return [hand for hand in hands_of(members(self.row.roll())) if hand != self.me]

    def ring(self):
        if self.is_chair():
            return self.tell_all()
        self.enter(self.term + 1)
        self.give_vote(self.me)
        self.seat = Asker(self.me)
        letters = [("please", self.me, hand, self.term, self.row.end()) for hand in self.others()]
        return letters + self.count_votes()

    def enter(self, term):
        self.term = term
        self.vote = None
        self.chair = None
        self.seat = Sitter()

    def give_vote(self, whom):
        self.vote = whom
        self.tell_paper(("vote", self.me, self.term, whom))

    def count_votes(self):
        if not wins(self.row.roll(), self.seat.voters):
            return []
        return self.take_chair()

    def take_chair(self):
        self.tell_paper(("chair", self.me, self.term, self.seat.voters))
        self.seat = Chair(self.me, self.row.last() + 1)
        self.chair = self.me
        return self.put_and_tell(("start",))

    def put_and_tell(self, what):
        place = self.row.put((self.term, what))
        self.tell_paper(("write", self.term, place, what))
        letters = self.tell_all()
        return letters + self.settle()

    def tell_all(self):
        self.seat.begin_beat()
        self.tell_paper(("beat", self.term, self.seat.beat))
        return [self.letter_to(hand) for hand in self.others()]

    def letter_to(self, hand):
        row = self.row
        first = self.seat.first_to_tell(hand)
        if first <= row.base:
            base = (row.base, row.base_term, row.base_roll, self.kept)
            return ("whole", self.me, hand, self.term, self.seat.beat) + base
        behind = first - row.base - 1
        entries = tuple(row.entries()[behind:behind + MOST_TOLD])
        told_on = (first - 1, row.term_at(first - 1), entries, self.settled)
        return ("tell", self.me, hand, self.term, self.seat.beat) + told_on

    def take(self, letter):
        if letter[2] != self.me:
            raise NotMine(letter[2])
        if letter[3] < self.term:
            return self.answer_late(letter)
        if letter[3] > self.term:
            self.enter(letter[3])
        if letter[0] == "please":
            return self.take_please(letter[1], letter[4])
        if letter[0] == "vote":
            return self.take_vote(letter[1])
        if letter[0] == "told":
            return self.take_told(letter[1], letter[4], letter[5], letter[6])
        if letter[0] in ("tell", "whole") and not self.is_chair():
            return self.follow(letter)
        return []

    def answer_late(self, letter):
        if letter[0] in ("please", "tell", "whole"):
            return [("late", self.me, letter[1], self.term)]
        return []

    def take_please(self, asker, end):
        if self.vote is None and self.row.end() <= end:
            self.give_vote(asker)
        if self.vote != asker:
            return []
        return [("vote", self.me, asker, self.term)]

    def take_vote(self, voter):
        if not isinstance(self.seat, Asker):
            return []
        self.seat.count_in(voter)
        return self.count_votes()

    def follow(self, letter):
        chair = letter[1]
        beat = letter[4]
        self.seat = Sitter()
        self.chair = chair
        if letter[0] == "whole":
            self.take_whole(letter[5], letter[6], letter[7], letter[8])
            return self.answer_told(chair, beat, True, letter[5])
        if not self.row.fits(letter[5], letter[6]):
            return self.answer_told(chair, beat, False, self.settled)
        place = letter[5] + len(letter[7])
        self.row.fill(letter[5], letter[7])
        self.follow_settled(min(place, letter[8]))
        return self.answer_told(chair, beat, True, place)

    def take_whole(self, place, term, roll, kept):
        if place <= self.settled:
            return
        self.row.rebase(place, term, roll)
        self.settled = place
        self.done = place
        self.kept = kept
        self.shelf = shelf_of(kept)

    def follow_settled(self, place):
        if place > self.settled:
            self.settled = place
            self.do_settled()

    def answer_told(self, chair, beat, yes, place):
        self.tell_paper(("told", self.me, self.term, place, beat))
        return [("told", self.me, chair, self.term, beat, yes, place)]

    def take_told(self, hand, beat, yes, place):
        if not self.is_chair():
            return []
        is_more = self.seat.hear(hand, beat, place)
        letters = self.settle()
        # Asked for behind settling, which may have put an entry that this hand lacks.
        lacks = self.seat.first_to_tell(hand) <= self.row.last()
        if not yes or (is_more and lacks):
            letters.append(self.letter_to(hand))
        return letters

    def settle(self):
        letters = []
        place = self.place_to_settle()
        if place is not None:
            self.settled = place
            self.tell_paper(("settle", self.term, place, self.seat.having(place)))
            self.do_settled()
            letters = self.leave_double_roll()
        self.answer_looks()
        return letters

    def place_to_settle(self):
        # Entries of other terms are settled only by one of its own behind them: another chair may yet cut them.
        for place in range(self.place_won(), self.settled, -1):
            if self.row.term_at(place) == self.term:
                return place
        return None

    def place_won(self):
        roll = self.row.roll()
        for place in self.seat.places_known(self.row.last()):
            if wins(roll, self.seat.having(place)):
                return place
        return self.settled

    def leave_double_roll(self):
        two = self.row.roll()[1]
        if two == 0 or self.row.roll_place() > self.settled:
            return []
        return self.put_and_tell(("roll", two, 0))

    def do_settled(self):
        for place in range(self.done + 1, self.settled + 1):
            what = self.row.entry_at(place)[1]
            if what[0] == "ask":
                self.do_ask(place, what)
            self.done = place

    def do_ask(self, place, what):
        answer = self.shelf.do(what[1], what[2], what[3])
        if self.is_chair():
            self.tell_paper(("answer", self.term, what[1], what[2], place, answer))

    def refuse_unless_chair(self):
        if not self.is_chair():
            raise NoChair(self.chair)

    def ask(self, who, number, order):
        self.refuse_unless_chair()
        return self.put_and_tell(("ask", who, number, order))

    def look(self, who, name):
        self.refuse_unless_chair()
        place = max(self.settled, self.seat.start)
        letters = self.tell_all()
        self.seat.looks.append((self.seat.beat, who, name, place))
        self.tell_paper(("look", self.term, self.seat.beat, who, name, place))
        return letters + self.settle()

    def answer_looks(self):
        looks = self.seat.looks
        while len(looks) > 0 and self.can_answer(looks[0]):
            self.answer_look(looks.pop(0))

    def can_answer(self, look):
        return self.done >= look[3] and wins(self.row.roll(), self.seat.hearing(look[0]))

    def answer_look(self, look):
        seen = (self.done, self.shelf.value_of(look[2]), self.seat.hearing(look[0]))
        self.tell_paper(("seen", self.term) + look[:3] + seen)

    def change(self, S):
        if S == 0:
            raise NoRoll(S)
        self.refuse_unless_chair()
        roll = self.row.roll()
        if roll[1] != 0 or self.row.roll_place() > self.settled:
            raise Busy(self.row.roll_place())
        return self.put_and_tell(("roll", roll[0], S))

    def fold(self):
        self.row.fold(self.done)
        self.kept = self.shelf.told()
        return self.done
