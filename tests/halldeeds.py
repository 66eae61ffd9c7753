"""Deeds done to halls: letters carried, calm, many drawn ones; and all that a hall tells of itself."""

import random

from chairvote.books import read_book
from chairvote.errors import Busy, NoChair
from chairvote.halls import Hall

MOST_CARRIED = 20000
FIRST_TERMS = (0, 0, 3, 10 ** 45)


def hall_state(hall, number):
    """All that the interface tells of a hall."""
    return (
        hall.road(), hall.papers(), hall.answers(),
        [hall.view(h) for h in range(number)], [hall.book(h) for h in range(number)],
    )


def row_of(hall, h):
    return read_book(hall.book(h)).row


def carry_all(hall):
    count = 0
    while hall.road():
        hall.carry(0)
        count += 1
        assert count < MOST_CARRIED, "letters without end"


def chaired_hall(number=3, S=7, h=0, term=0):
    """A hall in which this hand took the chair and all was told on; its road is empty."""
    hall = Hall(number, S, term)
    hall.ring(h)
    carry_all(hall)
    assert hall.view(h)[0] == "chairs"
    return hall


def lose_all(hall):
    while hall.road():
        hall.lose(len(hall.road()) - 1)


def ring_twice(hall, h):
    for again in range(2):
        hall.ring(h)
        carry_all(hall)


def calm(hall, number, chance):
    """All come up, the road is emptied, and one with the greatest end rings twice; gives that hand."""
    for h in range(number):
        if hall.view(h)[0] == "away":
            hall.rise(h)
    lose_all(hall)
    ends = [row_of(hall, h).end() for h in range(number)]
    h = chance.choice([h for h in range(number) if ends[h] == max(ends)])
    ring_twice(hall, h)
    return h


def drawn_halls(trials, seed=0):
    """New halls of one to nine hands, their first rolls all of them or some, each with a source of draws."""
    for trial in range(trials):
        chance = random.Random(seed + trial)
        number = trial % 9 + 1
        S = (1 << number) - 1 if trial % 2 == 0 else chance.randrange(1, 1 << number)
        yield Hall(number, S, FIRST_TERMS[trial % len(FIRST_TERMS)]), number, S, chance


class Drawer:
    """Draws deeds and does them to a hall. What a hand refuses is let be; what the hall refuses is not drawn."""

    KINDS = ("carry", "lose", "double", "rise", "ring", "ask", "look", "change", "fold", "fall")
    WEIGHTS = (
        (40, 4, 4, 4, 5, 16, 8, 4, 4, 2),
        (40, 1, 1, 5, 2, 16, 8, 8, 8, 1),
        (40, 6, 6, 9, 14, 14, 4, 4, 2, 6),
        (40, 2, 12, 3, 3, 5, 20, 2, 2, 1),
    )

    def __init__(self, hall, number, chance):
        self.hall = hall
        self.number = number
        self.chance = chance
        self.weights = dict(zip(self.KINDS, chance.choice(self.WEIGHTS)))
        self.stretch = 0

    def draw(self):
        """One deed. Many hands need many letters to agree, so stretches in which letters are carried are drawn too."""
        words = [self.hall.view(h)[0] for h in range(self.number)]
        count = len(self.hall.road())
        kind = "carry" if self.stretch > 0 and count > 0 else self.kind_of(words, count)
        self.stretch -= 1
        if kind in ("carry", "lose", "double"):
            self.draw_letter(kind, count)
        else:
            self.draw_hand(kind, words)
        return kind

    def kind_of(self, words, count):
        kinds = list(self.KINDS[3:]) if count == 0 else list(self.KINDS)
        if "away" not in words:
            kinds.remove("rise")
        if words == ["away"] * self.number:
            return "rise"
        kind = self.chance.choices(kinds, [self.weights[kind] for kind in kinds])[0]
        if kind == "carry":
            self.stretch = self.chance.choice((1, 1, 2, self.number, 4 * self.number))
        return kind

    def draw_letter(self, kind, count):
        k = self.chance.choice((0, 0, 0, 0, self.chance.randrange(count), count - 1))
        getattr(self.hall, kind)(k)

    def draw_hand(self, kind, words):
        hands = [h for h in range(self.number) if (words[h] == "away") == (kind == "rise")]
        chairs = [h for h in hands if words[h] == "chairs"]
        if chairs and self.chance.random() < (0.5 if kind in ("ring", "fold", "fall") else 0.9):
            hands = chairs
        try:
            getattr(self.hall, kind)(self.chance.choice(hands), *self.handed_in(kind))
        except (NoChair, Busy):
            pass

    def handed_in(self, kind):
        if kind == "ask":
            return (self.chance.randrange(3), self.chance.randrange(1, 12), self.order())
        if kind == "look":
            return (self.chance.randrange(5), self.chance.choice("abc"))
        if kind == "change":
            return (self.chance.randrange(1, 1 << self.number),)
        return ()

    def order(self):
        name, n = self.chance.choice("abc"), self.chance.choice((-2, 0, 1, 3, 10 ** 40))
        return self.chance.choice((("put", name, n), ("add", name, n), ("swap", name, self.chance.randrange(2), n)))
