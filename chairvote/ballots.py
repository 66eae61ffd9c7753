"""Votes and chairs as papers tell them: the terms of hands, whom they voted for, and who chairs which term."""

from chairvote.rolls import hands_of, set_of


class Ballots:
    def __init__(self, rules):
        self.rules = rules
        self.terms = {}
        self.votes = {}
        self.askings = {}
        self.seated = {}

    def term_of(self, hand):
        return self.terms.get(hand, 0)

    def reach(self, hand, term):
        self.terms[hand] = term

    def votes_of(self, hand, term):
        return self.votes.get((hand, term), 0)

    def asked_with(self, hand, term):
        return self.askings.get((hand, term))

    def may_vote(self, hand, term, whom, end):
        if term < self.term_of(hand) or self.is_spent(hand, term, whom):
            return False
        if whom == hand:
            return term > self.term_of(hand)
        return self.is_good_enough(whom, term, end)

    def is_spent(self, hand, term, whom):
        votes = self.votes_of(hand, term)
        if self.rules.once:
            return votes != 0
        return votes & set_of([whom]) != 0

    def is_good_enough(self, whom, term, end):
        asked = self.asked_with(whom, term)
        if asked is None:
            return False
        return end <= asked or not self.rules.best

    def cast(self, hand, term, whom, end):
        if whom == hand:
            self.askings[(hand, term)] = end
        self.votes[(hand, term)] = self.votes_of(hand, term) | set_of([whom])
        self.reach(hand, term)

    def may_chair(self, hand, term, voters, end, roll):
        if self.term_of(hand) != term or self.chair_of(term) == hand:
            return False
        # A row that changed since the hand asked is not the one that its voters compared with theirs.
        if self.asked_with(hand, term) != end:
            return False
        return self.voted_all(voters, term, hand) and self.rules.wins(roll, voters)

    def voted_all(self, voters, term, whom):
        return all([self.votes_of(voter, term) & set_of([whom]) != 0 for voter in hands_of(voters)])

    def chair_of(self, term):
        return self.seated.get(term)

    def take_seat(self, hand, term):
        self.seated[term] = hand

    def stands(self, term):
        return term in self.seated and self.term_of(self.seated[term]) == term

    def chairs(self):
        return sorted(self.seated.items())

    def known(self):
        votes = [key + (S,) for key, S in sorted(self.votes.items())]
        askings = [key + (end,) for key, end in sorted(self.askings.items())]
        return (tuple(sorted(self.terms.items())), tuple(votes), tuple(askings))

    def twin(self):
        like = Ballots(self.rules)
        like.terms = dict(self.terms)
        like.votes = dict(self.votes)
        like.askings = dict(self.askings)
        like.seated = dict(self.seated)
        return like
