"""A row of entries at numbered places, of which the first ones may be folded away."""

from chairvote.errors import NoPlace


class Row:
    def __init__(self, base, base_term, base_roll, entries):
        self.base = base
        self.base_term = base_term
        self.base_roll = base_roll
        self.kept = list(entries)

    def entries(self):
        return list(self.kept)

    def last(self):
        return self.base + len(self.kept)

    def end(self):
        return (self.term_at(self.last()), self.last())

    def keeps(self, place):
        return self.base < place and place <= self.last()

    def entry_at(self, place):
        # Asked ahead of the index, which would count places below the base from the row's end.
        if not self.keeps(place):
            raise NoPlace(place)
        return self.kept[place - self.base - 1]

    def term_at(self, place):
        if place == self.base:
            return self.base_term
        return self.entry_at(place)[0]

    def roll_place_by(self, place):
        while place > self.base and self.entry_at(place)[1][0] != "roll":
            place = place - 1
        return place

    def roll_by(self, place):
        found = self.roll_place_by(place)
        if found == self.base:
            return self.base_roll
        what = self.entry_at(found)[1]
        return (what[1], what[2])

    def roll(self):
        return self.roll_by(self.last())

    def roll_place(self):
        return self.roll_place_by(self.last())

    def put(self, entry):
        self.kept.append(entry)
        return self.last()

    def fits(self, prev, prev_term):
        # What lies below the base is settled and alike everywhere, so its term is not asked for.
        if prev < self.base:
            return True
        return prev <= self.last() and self.term_at(prev) == prev_term

    def parts(self, prev, entries):
        for place, entry in enumerate(entries, start=prev + 1):
            if self.keeps(place) and self.term_at(place) != entry[0]:
                return place
        return None

    def fill(self, prev, entries):
        if prev > self.last():
            raise NoPlace(prev)
        parting = self.parts(prev, entries)
        if parting is not None:
            self.kept = self.kept[:parting - self.base - 1]
        for place, entry in enumerate(entries, start=prev + 1):
            if place > self.last():
                self.put(entry)

    def fold(self, place):
        # The term is asked for first: it refuses the places that the row does not know.
        term = self.term_at(place)
        self.rebase(place, term, self.roll_by(place))

    def rebase(self, place, term, roll):
        if place <= self.base:
            return
        behind = []
        if self.keeps(place) and self.term_at(place) == term:
            behind = self.kept[place - self.base:]
        self.kept = behind
        self.base = place
        self.base_term = term
        self.base_roll = roll

    def twin(self):
        return Row(self.base, self.base_term, self.base_roll, self.kept)
