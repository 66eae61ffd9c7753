"""Small worlds: what a bench can take next, and all that can come of it, gone through to the end."""

from chairvote.benches import Bench
from chairvote.rolls import set_of
from chairvote.rules import Rules


def votes(hands, terms):
    papers = []
    for hand in range(hands):
        for term in range(1, terms + 1):
            papers.extend([("vote", hand, term, whom) for whom in range(hands)])
    return papers


def chairs(bench, hands, terms):
    papers = []
    for hand in range(hands):
        for term in range(1, terms + 1):
            papers.append(("chair", hand, term, voters_for(bench, hand, term, hands)))
    return papers


def voters_for(bench, whom, term, hands):
    return set_of([hand for hand in range(hands) if bench.votes_of(hand, term) & set_of([whom]) != 0])


def writes(term, line, asks):
    place = len(line) + 1
    papers = [("write", term, place, ("start",))]
    k = len([entry for entry in line if entry[1][0] == "ask"]) + 1
    if k <= asks:
        papers.append(("write", term, place, ("ask", 0, k, ("add", "a", k))))
    return papers


def tolds(term, line, hands):
    papers = []
    for hand in range(hands):
        papers.extend([("told", hand, term, place, 0) for place in range(len(line) + 1)])
    return papers


def settles(term, line, places):
    papers = []
    for place in range(1, len(line) + 1):
        having = [hand for hand, known in places.items() if known >= place]
        papers.append(("settle", term, place, set_of(having)))
    return papers


def places_known(world, term, chair, line, hands):
    places = dict([(hand, place) for hand, other, place in world[5] if other == term and hand < hands])
    places[chair] = len(line)
    return places


def of_lines(world, hands, terms, asks):
    papers = []
    for term, chair, line in world[4]:
        if term <= terms and chair < hands:
            papers.extend(writes(term, line, asks))
            papers.extend(tolds(term, line, hands))
            papers.extend(settles(term, line, places_known(world, term, chair, line, hands)))
    return papers


def steps(bench, hands, terms, asks):
    world = bench.world()
    found = []
    for paper in votes(hands, terms) + chairs(bench, hands, terms) + of_lines(world, hands, terms, asks):
        if bench.allows(paper):
            after = bench.twin()
            after.take(paper)
            if after.broken() is not None or after.world() != world:
                found.append((paper, after))
    return found


def moves(bench, hands, terms, asks):
    return [step[0] for step in steps(bench, hands, terms, asks)]


class Walk:
    def __init__(self, first):
        self.far = 0
        self.worlds = [(first.world(), 0, None, None)]
        self.met = {first.world(): True}
        self.edge = [(0, first)]
        self.fresh = []

    def meet(self, back, paper, bench):
        world = bench.world()
        if world not in self.met:
            self.met[world] = True
            self.fresh.append(((world, self.far + 1, back, paper), bench))

    def go_on(self):
        # Only now that no move of the edge broke a bench are the worlds behind it known to be nearer than a break.
        self.far = self.far + 1
        self.edge = []
        for row, bench in self.fresh:
            self.edge.append((len(self.worlds), bench))
            self.worlds.append(row)
        self.fresh = []

    def papers_to(self, k):
        papers = []
        while k > 0:
            papers.append(self.worlds[k][3])
            k = self.worlds[k][2]
        return list(reversed(papers))


def explore(hands, terms, asks, text="once best own most", cap=200):
    walk = Walk(Bench(set_of(list(range(hands))), Rules(text)))
    while len(walk.edge) > 0:
        if len(walk.worlds) > cap:
            return ("more", [], [])
        for back, bench in walk.edge:
            for paper, after in steps(bench, hands, terms, asks):
                if after.broken() is not None:
                    return ("broken", walk.worlds, walk.papers_to(back) + [paper])
                walk.meet(back, paper, after)
        walk.go_on()
    return ("closed", walk.worlds, [])
