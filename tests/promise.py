"""What the whole promises of a hall, held deed by deed against its papers, views and books alone."""

from chairvote.benches import Bench
from tests.halldeeds import row_of
from tests.outcomes import Outcomes, replayed
from tests.witness import end_of


class Promise:
    """For each place that a chair settled, its entry and the least term whose chair settled it; and what is out."""

    def __init__(self, test, hall, number, S):
        self.test = test
        self.hall = hall
        self.number = number
        self.bench = Bench(S)
        self.outcomes = Outcomes(test)
        self.taken = []
        self.settled = {}

    def hold(self):
        """Called behind each deed, so that chairs are met while they keep what they settled."""
        self.read_papers()
        views = [self.hall.view(h) for h in range(self.number)]
        rows = [row_of(self.hall, h) for h in range(self.number)]
        self.hold_chairs(views, rows)
        self.hold_shelves(views)
        self.hold_rows(rows)
        self.hold_told(views, rows)

    def read_papers(self):
        papers = self.hall.papers()
        self.test.assertEqual(papers[:len(self.taken)], self.taken)
        for paper in papers[len(self.taken):]:
            self.bench.take(paper)
            self.test.assertIsNone(self.bench.broken())
            self.outcomes.hold(paper)
        self.taken = papers
        self.test.assertEqual(self.hall.answers(), [paper for paper in papers if paper[0] in ("answer", "seen")])

    def hold_chairs(self, views, rows):
        for h, view in enumerate(views):
            if view[0] == "chairs":
                self.test.assertEqual(self.outcomes.chairs[view[1]], h)
                self.note_settled(view, rows[h])
        for h, view in enumerate(views):
            if view[0] == "chairs":
                self.hold_settled(view[1], rows[h])

    def note_settled(self, view, row):
        for place in range(row.base + 1, view[4] + 1):
            entry, term = self.settled.get(place, (row.entry_at(place), view[1]))
            self.test.assertEqual(row.entry_at(place), entry)
            self.settled[place] = (entry, min(term, view[1]))

    def hold_settled(self, chair_term, row):
        for place, (entry, term) in self.settled.items():
            if term < chair_term and place > row.base:
                self.test.assertLessEqual(place, row.last())
                self.test.assertEqual(row.entry_at(place), entry)

    def hold_shelves(self, views):
        for word, term, vote, chair, settled, done, shelf in views:
            self.test.assertEqual(settled, done)
            self.test.assertEqual(shelf, replayed([self.settled[place][0] for place in range(1, done + 1)]))

    def hold_rows(self, rows):
        for k, one in enumerate(rows):
            for two in rows[:k]:
                self.hold_alike(one, two)

    def hold_alike(self, one, two):
        base = max(one.base, two.base)
        places = range(base + 1, min(one.last(), two.last()) + 1)
        same = [place for place in places if one.term_at(place) == two.term_at(place)]
        for place in range(base + 1, max(same, default=base) + 1):
            self.test.assertEqual(one.entry_at(place), two.entry_at(place))

    def hold_told(self, views, rows):
        for h in range(self.number):
            told = self.bench.row_of(h)
            self.test.assertEqual(rows[h].end(), end_of(told))
            self.test.assertEqual(rows[h].entries(), told[rows[h].base:])
            if views[h][2] is not None:
                self.test.assertEqual(self.bench.votes_of(h, views[h][1]), 1 << views[h][2])
