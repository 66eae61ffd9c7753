"""Several hands and the road between them, on which letters come late, twice, out of order or never."""

from chairvote.books import Book, read_book, written
from chairvote.errors import Busy, NoChair
from chairvote.hands import Hand
from chairvote.rolls import hands_of, members
from chairvote.rows import Row
from tests.making import EMPTY


class Road:
    def __init__(self, count, S, term=0):
        self.papers = []
        self.letters = []
        self.books = {}
        self.asked = 0
        book = Book(term, None, Row(0, 0, (S, 0), []), EMPTY)
        self.hands = {h: Hand(h, book, self.papers.append) for h in range(count)}

    def ring(self, h):
        self.letters += self.hands[h].ring()

    def ask(self, h, order=("add", "a", 1), number=None):
        self.asked += 1
        self.hand_in(lambda: self.hands[h].ask(1, self.asked if number is None else number, order))

    def look(self, h, name="a"):
        self.hand_in(lambda: self.hands[h].look(2, name))

    def change(self, h, S):
        self.hand_in(lambda: self.hands[h].change(S))

    def hand_in(self, deed):
        try:
            self.letters += deed()
        except (NoChair, Busy):
            pass

    def fall(self, h):
        self.books[h] = written(self.hands.pop(h).book())

    def rise(self, h):
        self.hands[h] = Hand(h, read_book(self.books.pop(h)), self.papers.append)

    def rise_all(self):
        for h in sorted(self.books):
            self.rise(h)

    def carry(self, k=0):
        letter = self.letters.pop(k)
        if letter[2] in self.hands:
            self.letters += self.hands[letter[2]].take(letter)

    def carry_all(self):
        count = 0
        while self.letters:
            self.carry()
            count += 1
            assert count < 20000, "letters without end"

    def chairs(self):
        return [h for h, hand in self.hands.items() if hand.seat.word() == "chairs"]

    def calm(self):
        """All come up, the road is emptied, and one with the greatest end rings twice; gives that hand."""
        self.rise_all()
        self.letters.clear()
        h = max(self.hands, key=lambda h: self.hands[h].row.end())
        for again in range(2):
            self.ring(h)
            self.carry_all()
        return h

    def deed(self, chance):
        """One deed at random."""
        kind = chance.choices(
            ("carry", "ring", "ask", "look", "change", "fold", "fall", "rise", "lose", "double"),
            (60, 5, 10, 6, 3, 3, 2, 4, 4, 4),
        )[0]
        if kind in ("carry", "lose", "double"):
            if self.letters:
                self.road_deed(kind, chance.randrange(len(self.letters)) if chance.random() < 0.5 else 0)
        elif kind == "rise":
            if self.books:
                self.rise(chance.choice(sorted(self.books)))
        elif self.hands:
            self.hand_deed(kind, chance.choice((self.chairs() or sorted(self.hands)) + sorted(self.hands)), chance)

    def road_deed(self, kind, k):
        if kind == "carry":
            self.carry(k)
        elif kind == "lose":
            self.letters.pop(k)
        else:
            self.letters.append(self.letters[k])

    def hand_deed(self, kind, h, chance):
        if kind == "ring":
            self.ring(h)
        elif kind == "ask":
            name, n = chance.choice("abc"), chance.randrange(-2, 3)
            order = chance.choice((("put", name, n), ("add", name, n), ("swap", name, chance.randrange(-1, 2), n)))
            self.ask(h, order, chance.randrange(1, 40))
        elif kind == "look":
            self.look(h, chance.choice("abc"))
        elif kind == "change":
            self.change(h, chance.randrange(1, 1 << (len(self.hands) + len(self.books))))
        elif kind == "fold":
            self.hands[h].fold()
        elif kind == "fall":
            self.fall(h)

    def roll_hands(self, h):
        return [self.hands[other] for other in hands_of(members(self.hands[h].row.roll()))]
