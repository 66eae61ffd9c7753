"""The rows of a text and their words, looked at one by one; what stands in no book is refused."""

from chairvote.errors import Torn

FIGURES = "0123456789"
LETTERS = "abcdefghijklmnopqrstuvwxyz"
MOST_FIGURES = 100
MOST_LETTERS = 8
HANDS = 60


def is_of(word, signs, most):
    return 1 <= len(word) and len(word) <= most and all([sign in signs for sign in word])


def is_number(word):
    figures = word
    if word.startswith("-"):
        figures = word[1:]
    if not is_of(figures, FIGURES, MOST_FIGURES):
        return False
    # A number is written in one way alone, so that what is read and written again is the same text.
    return word == "0" or not figures.startswith("0")


def is_name(word):
    return is_of(word, LETTERS, MOST_LETTERS)


class Reader:
    def __init__(self, text):
        self.rows = text.split("\n")
        self.here = 1

    def words(self):
        # A row that lacks is refused like one that is wrong: no book ends ahead of its last row.
        if self.here > len(self.rows):
            raise Torn(self.here)
        return self.rows[self.here - 1].split(" ")

    def begins(self, word):
        return self.words()[0] == word

    def words_of(self, first, count):
        words = self.words()
        if words[0] != first or len(words) != count:
            raise Torn(self.here)
        return words

    def go_on(self):
        self.here = self.here + 1

    def whole(self, word):
        if not is_number(word):
            raise Torn(self.here)
        return int(word)

    def from_nought(self, word):
        number = self.whole(word)
        if number < 0:
            raise Torn(self.here)
        return number

    def below(self, word, bound):
        number = self.from_nought(word)
        if number >= bound:
            raise Torn(self.here)
        return number

    def hand(self, word):
        return self.below(word, HANDS)

    def both_sets(self, one, two):
        roll = (self.below(one, 1 << HANDS), self.below(two, 1 << HANDS))
        if roll[0] == 0:
            raise Torn(self.here)
        return roll

    def name(self, word):
        if not is_name(word):
            raise Torn(self.here)
        return word

    def finish(self):
        words = self.words_of("end", 2)
        if self.whole(words[1]) != self.here - 1:
            raise Torn(self.here)
        if self.here < len(self.rows):
            raise Torn(self.here + 1)
