"""The rules by which a bench takes papers: four words, each one of two."""

from chairvote.errors import NoRules
from chairvote.rolls import wins

CHOICES = (("once", "free"), ("best", "any"), ("own", "old"), ("most", "half"))


def wrong_word(words):
    for k, choice in enumerate(CHOICES):
        if k >= len(words) or words[k] not in choice:
            return k
    if len(words) > len(CHOICES):
        return len(CHOICES)
    return None


class Rules:
    def __init__(self, text="once best own most"):
        words = text.split(" ")
        wrong = wrong_word(words)
        if wrong is not None:
            raise NoRules(wrong)
        self.once = words[0] == "once"
        self.best = words[1] == "best"
        self.own = words[2] == "own"
        self.most = words[3] == "most"

    def wins(self, roll, S):
        return wins(roll, S, not self.most)

    def twin(self):
        like = Rules()
        like.once = self.once
        like.best = self.best
        like.own = self.own
        like.most = self.most
        return like
