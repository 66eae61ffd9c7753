"""A hall: its hands, the road on which their letters lie, and the papers that they tell."""

from chairvote.books import Book, read_book, written
from chairvote.errors import Away, NoHand, NoLetter, NoRoll, Standing
from chairvote.hands import Hand
from chairvote.rows import Row
from chairvote.shelves import Shelf


def viewed(word, hand):
    return (word, hand.term, hand.vote, hand.chair, hand.settled, hand.done, hand.shelf.told())


class Hall:
    def __init__(self, number, S, term=0):
        self.number = number
        if S == 0:
            raise NoRoll(S)
        self.refuse_strangers(S)
        self.letters = []
        self.noted = []
        self.hands = {}
        self.texts = {}
        book = Book(term, None, Row(0, 0, (S, 0), []), Shelf().told())
        for h in range(number):
            self.bring_up(h, book)

    def bring_up(self, h, book):
        self.hands[h] = Hand(h, book, lambda paper: self.noted.append(paper))

    def refuse_strangers(self, S):
        if S >> self.number != 0:
            raise NoRoll(S)

    def refuse_unknown(self, h):
        if h < 0 or h >= self.number:
            raise NoHand(h)

    def hand_up(self, h):
        self.refuse_unknown(h)
        if h in self.texts:
            raise Away(h)
        return self.hands[h]

    def send(self, letters):
        self.letters.extend(letters)

    def ring(self, h):
        self.send(self.hand_up(h).ring())

    def ask(self, h, who, number, order):
        self.send(self.hand_up(h).ask(who, number, order))

    def look(self, h, who, name):
        self.send(self.hand_up(h).look(who, name))

    def change(self, h, S):
        hand = self.hand_up(h)
        self.refuse_strangers(S)
        self.send(hand.change(S))

    def fold(self, h):
        return self.hand_up(h).fold()

    def fall(self, h):
        self.texts[h] = written(self.hand_up(h).book())
        self.hands.pop(h)

    def rise(self, h):
        self.refuse_unknown(h)
        if h in self.hands:
            raise Standing(h)
        self.bring_up(h, read_book(self.texts.pop(h)))

    def letter(self, k):
        # Asked ahead of the index, which would count numbers below 0 from the road's end.
        if k < 0 or k >= len(self.letters):
            raise NoLetter(k)
        return self.letters[k]

    def take_off(self, k):
        letter = self.letter(k)
        self.letters.pop(k)
        return letter

    def carry(self, k):
        letter = self.take_off(k)
        if letter[2] in self.hands:
            self.send(self.hands[letter[2]].take(letter))

    def lose(self, k):
        self.take_off(k)

    def double(self, k):
        self.letters.append(self.letter(k))

    def road(self):
        return list(self.letters)

    def papers(self):
        return list(self.noted)

    def answers(self):
        return [paper for paper in self.noted if paper[0] in ("answer", "seen")]

    def view(self, h):
        self.refuse_unknown(h)
        if h in self.hands:
            return viewed(self.hands[h].seat.word(), self.hands[h])
        # What is told of a hand that is down is just what a hand made of its book begins with.
        return viewed("away", Hand(h, read_book(self.texts[h])))

    def book(self, h):
        self.refuse_unknown(h)
        if h in self.texts:
            return self.texts[h]
        return written(self.hands[h].book())
