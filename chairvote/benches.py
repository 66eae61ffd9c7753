"""A bench: it takes papers one by one, or refuses them, and knows what those that it took tell."""

from chairvote.ballots import Ballots
from chairvote.errors import BadPaper
from chairvote.lists import end_of, start_place_of
from chairvote.replies import Replies, is_answer, is_value
from chairvote.rules import Rules
from chairvote.strides import Strides

SIZES = {"vote": 4, "chair": 4, "write": 4, "beat": 3, "told": 5, "settle": 4, "answer": 6, "look": 6, "seen": 8}
OF_HANDS = ("vote", "chair", "told")


def is_formed(paper):
    return len(paper) > 0 and SIZES.get(paper[0]) == len(paper)


def term_on(paper):
    if paper[0] in OF_HANDS:
        return paper[2]
    return paper[1]


class Bench:
    def __init__(self, S, rules=None):
        self.first = S
        self.rules = Rules() if rules is None else rules.twin()
        self.ballots = Ballots(self.rules)
        self.strides = Strides((S, 0), self.rules)
        self.replies = Replies()
        self.count = 0
        self.breach = None

    def take(self, paper):
        if not self.allows(paper):
            raise BadPaper(self.count)
        self.count = self.count + 1
        if paper[0] in OF_HANDS:
            self.follow_hand(paper)
        else:
            self.follow_chair(paper)

    def allows(self, paper):
        if self.breach is not None or not is_formed(paper) or term_on(paper) < 1:
            return False
        if paper[0] in OF_HANDS:
            return self.allows_hand(paper)
        return self.ballots.stands(paper[1]) and self.allows_chair(paper)

    def allows_hand(self, paper):
        hand = paper[1]
        end = end_of(self.strides.row_of(hand))
        if paper[0] == "vote":
            return self.ballots.may_vote(hand, paper[2], paper[3], end)
        if paper[0] == "chair":
            return self.ballots.may_chair(hand, paper[2], paper[3], end, self.strides.row_roll(hand))
        return self.may_tell(hand, paper[2], paper[3], paper[4])

    def allows_chair(self, paper):
        term = paper[1]
        if paper[0] == "write":
            return self.strides.may_write(term, paper[2], paper[3])
        if paper[0] == "beat":
            return self.replies.may_begin(term, paper[2])
        if paper[0] == "settle":
            return self.strides.may_settle(self.ballots.chair_of(term), term, paper[2], paper[3])
        if paper[0] == "answer":
            return self.may_answer(term, paper[2], paper[3], paper[4], paper[5])
        if paper[0] == "look":
            return self.replies.may_look(term, paper[2]) and paper[5] == self.place_to_look(term)
        return self.may_see(term, paper[2], paper[3:6], paper[6], paper[7])

    def may_tell(self, hand, term, place, beat):
        chair = self.ballots.chair_of(term)
        if chair is None or chair == hand or term < self.ballots.term_of(hand):
            return False
        return self.strides.may_tell(term, place) and self.replies.may_hear(term, beat)

    def may_answer(self, term, who, number, place, answer):
        if place < 1 or place > self.strides.settled_by(term):
            return False
        return is_answer(self.strides.line(term), who, number, place, answer)

    def place_to_look(self, term):
        start = start_place_of(self.strides.line(term), term)
        # A chair that has written nothing yet does not know how far those ahead of it settled, so none may look.
        if start is None:
            return None
        return max(self.strides.mark(term), start)

    def may_see(self, term, beat, look, value, hands):
        if not self.replies.may_see(term, beat, look) or look[2] > self.strides.settled_by(term):
            return False
        if not self.replies.have_beat(self.ballots.chair_of(term), term, beat, hands):
            return False
        return self.strides.are_winners(term, hands) and is_value(self.strides.line(term), look[1], look[2], value)

    def follow_hand(self, paper):
        hand = paper[1]
        term = paper[2]
        if paper[0] == "vote":
            self.ballots.cast(hand, term, paper[3], end_of(self.strides.row_of(hand)))
        elif paper[0] == "chair":
            self.follow_to_chair(hand, term)
        else:
            self.ballots.reach(hand, term)
            self.strides.tell(hand, term, paper[3])
            self.replies.hear(hand, term, paper[4])

    def follow_to_chair(self, hand, term):
        if self.ballots.chair_of(term) is not None:
            self.breach = ("chairs", term)
            return
        self.ballots.take_seat(hand, term)
        self.strides.begin_line(hand, term)
        self.find_lost(term)

    def follow_chair(self, paper):
        term = paper[1]
        if paper[0] == "write":
            self.strides.write(self.ballots.chair_of(term), term, paper[3])
        elif paper[0] == "beat":
            self.replies.begin(term, paper[2])
        elif paper[0] == "settle":
            self.strides.settle(term, paper[2])
            self.find_lost(term)
        elif paper[0] == "look":
            self.replies.look(term, paper[2], paper[3:])
        elif paper[0] == "seen":
            self.replies.see(term, paper[2])

    def find_lost(self, term):
        lost = self.strides.lost_behind(term)
        if lost is not None:
            self.breach = ("lost", lost)

    def broken(self):
        return self.breach

    def term_of(self, h):
        return self.ballots.term_of(h)

    def row_of(self, h):
        return list(self.strides.row_of(h))

    def votes_of(self, h, term):
        return self.ballots.votes_of(h, term)

    def chairs(self):
        return self.ballots.chairs()

    def line(self, term):
        return list(self.strides.line(term))

    def mark(self, term):
        return self.strides.mark(term)

    def world(self):
        lines = tuple([(term, hand, self.strides.line(term)) for term, hand in self.ballots.chairs()])
        strides = (self.strides.rows_known(), lines, self.strides.told_known(), self.strides.marks_known())
        return self.ballots.known() + strides

    def twin(self):
        like = Bench(self.first, self.rules)
        like.ballots = self.ballots.twin()
        like.strides = self.strides.twin()
        like.replies = self.replies.twin()
        like.count = self.count
        like.breach = self.breach
        return like
