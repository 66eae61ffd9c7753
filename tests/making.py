"""What several tests make hands, books and letters of."""

from chairvote.books import Book
from chairvote.hands import Hand
from chairvote.rows import Row

START = ("start",)
EMPTY = ((), ())
GREAT = 10 ** 45
GREAT_TERM = 7 * 10 ** 50


def ask(number, order=("add", "a", 1), who=0):
    return ("ask", who, number, order)


def asks(term, first, count):
    return [(term, ask(first + k)) for k in range(count)]


def book_of(term=0, vote=None, base=0, base_term=0, roll=(7, 0), entries=(), kept=EMPTY):
    return Book(term, vote, Row(base, base_term, roll, list(entries)), kept)


def hand_of(me=0, **parts):
    """A hand of such a book, and the list to which its papers go."""
    papers = []
    return Hand(me, book_of(**parts), papers.append), papers


def asker_of(me=0, **parts):
    hand, papers = hand_of(me, **parts)
    hand.ring()
    papers.clear()
    return hand, papers


def chair_of(me=0, voters=(1,), **parts):
    """A hand that took the chair by the votes of these hands; its papers so far are gone."""
    hand, papers = asker_of(me, **parts)
    for voter in voters:
        hand.take(("vote", voter, me, hand.term))
    assert hand.seat.word() == "chairs"
    papers.clear()
    return hand, papers


def told(hand, who, beat, place, yes=True):
    """The letters that a chair sends when it is told so by another hand."""
    return hand.take(("told", who, hand.me, hand.term, beat, yes, place))


def row_state(row):
    return (row.base, row.base_term, row.base_roll, row.entries())


def book_state(book):
    return (book.term, book.vote, row_state(book.row), book.kept)


def told_state(hand):
    """What the interface tells of a hand."""
    return (
        hand.me, hand.term, hand.vote, row_state(hand.row), hand.settled, hand.done, hand.shelf.told(), hand.chair,
        hand.seat.word(), book_state(hand.book()),
    )


def whole_state(thing):
    """All that an object holds, deep down, so that nothing can change unseen."""
    if isinstance(thing, (list, tuple)):
        return [whole_state(part) for part in thing]
    if isinstance(thing, dict):
        return sorted((key, whole_state(part)) for key, part in thing.items())
    if hasattr(thing, "__dict__") and not callable(thing):
        return [type(thing).__name__, whole_state({k: v for k, v in vars(thing).items() if k != "note"})]
    return thing
