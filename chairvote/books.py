"""The book of a hand: what it keeps through a fall, and how this is written and read."""

from chairvote.errors import Torn
from chairvote.readers import Reader
from chairvote.rows import Row

ORDER_WORDS = {"put": 3, "add": 3, "swap": 4}


class Book:
    def __init__(self, term, vote, row, kept):
        self.term = term
        self.vote = vote
        self.row = row.twin()
        self.kept = kept


def worded(parts):
    return " ".join([str(part) for part in parts])


def entry_parts(entry):
    what = entry[1]
    if what[0] == "ask":
        return ("at", entry[0], "ask", what[1], what[2]) + what[3]
    return ("at", entry[0]) + what


def written(book):
    row = book.row
    rows = [worded(("book", book.term, "-" if book.vote is None else book.vote))]
    rows.append(worded(("base", row.base, row.base_term) + row.base_roll))
    rows.extend([worded(("value",) + value) for value in book.kept[0]])
    rows.extend([worded(("answer",) + answer) for answer in book.kept[1]])
    rows.extend([worded(entry_parts(entry)) for entry in row.entries()])
    rows.append(worded(("end", len(rows))))
    return "\n".join(rows)


def read_head(reader):
    words = reader.words_of("book", 3)
    vote = None
    if words[2] != "-":
        vote = reader.hand(words[2])
    head = (reader.from_nought(words[1]), vote)
    reader.go_on()
    return head


def read_base(reader):
    words = reader.words_of("base", 5)
    place = reader.from_nought(words[1])
    base = (place, reader.from_nought(words[2]), reader.both_sets(words[3], words[4]))
    reader.go_on()
    return base


def read_values(reader):
    values = []
    while reader.begins("value"):
        words = reader.words_of("value", 3)
        value = (reader.name(words[1]), reader.whole(words[2]))
        if value[1] == 0 or (len(values) > 0 and value[0] <= values[-1][0]):
            raise Torn(reader.here)
        values.append(value)
        reader.go_on()
    return tuple(values)


def read_answers(reader):
    answers = []
    while reader.begins("answer"):
        words = reader.words_of("answer", 4)
        answer = tuple([reader.whole(word) for word in words[1:]])
        if len(answers) > 0 and answer[:2] <= answers[-1][:2]:
            raise Torn(reader.here)
        answers.append(answer)
        reader.go_on()
    return tuple(answers)


def read_order(reader, words):
    if ORDER_WORDS.get(words[0]) != len(words):
        raise Torn(reader.here)
    numbers = [reader.whole(word) for word in words[2:]]
    return (words[0], reader.name(words[1])) + tuple(numbers)


def read_what(reader, words):
    if words == ["start"]:
        return ("start",)
    if len(words) == 3 and words[0] == "roll":
        return ("roll",) + reader.both_sets(words[1], words[2])
    if len(words) > 3 and words[0] == "ask":
        return ("ask", reader.whole(words[1]), reader.whole(words[2]), read_order(reader, words[3:]))
    raise Torn(reader.here)


def read_entries(reader):
    entries = []
    while reader.begins("at"):
        words = reader.words()
        what = read_what(reader, words[2:])
        entries.append((reader.from_nought(words[1]), what))
        reader.go_on()
    return entries


def read_book(text):
    reader = Reader(text)
    head = read_head(reader)
    base = read_base(reader)
    values = read_values(reader)
    answers = read_answers(reader)
    row = Row(base[0], base[1], base[2], read_entries(reader))
    reader.finish()
    return Book(head[0], head[1], row, (values, answers))
