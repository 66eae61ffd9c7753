"""A shelf: a value for each name, and the answers of all asks done on it."""


class Shelf:
    def __init__(self):
        self.amounts = {}
        self.answered = {}

    def value_of(self, name):
        return self.amounts.get(name, 0)

    def do(self, who, number, order):
        ask = (who, number)
        # An ask may stand in a row more than once; only the first time counts, whatever is ordered later.
        if ask not in self.answered:
            self.answered[ask] = self.obey(order)
        return self.answered[ask]

    def obey(self, order):
        name = order[1]
        before = self.value_of(name)
        if order[0] == "put":
            self.amounts[name] = order[2]
            return before
        if order[0] == "add":
            self.amounts[name] = before + order[2]
            return before + order[2]
        if before != order[2]:
            return 0
        self.amounts[name] = order[3]
        return 1

    def told(self):
        values = [pair for pair in sorted(self.amounts.items()) if pair[1] != 0]
        answers = [ask + (answer,) for ask, answer in sorted(self.answered.items())]
        return (tuple(values), tuple(answers))

    def twin(self):
        return shelf_of(self.told())


def shelf_of(told):
    shelf = Shelf()
    for name, value in told[0]:
        shelf.amounts[name] = value
    for who, number, answer in told[1]:
        shelf.answered[(who, number)] = answer
    return shelf
