"""Lists of entries from place 1 on: rows and lines as papers tell them, none of whose entries is folded away."""

from chairvote.shelves import Shelf


def end_of(entries):
    if len(entries) == 0:
        return (0, 0)
    return (entries[-1][0], len(entries))


def roll_place_of(entries):
    place = len(entries)
    while place > 0 and entries[place - 1][1][0] != "roll":
        place = place - 1
    return place


def roll_of(entries, first_roll):
    place = roll_place_of(entries)
    if place == 0:
        return first_roll
    what = entries[place - 1][1]
    return (what[1], what[2])


def start_place_of(entries, term):
    for place, entry in enumerate(entries, start=1):
        if entry[0] == term:
            return place
    return None


def are_alike(one, two, place):
    # A list that is shorter than the place lacks entries, and so is unlike one that has them.
    return one[:place] == two[:place]


def led_by(line, row, place):
    # What a row holds behind a place up to which it agrees may still be told on by its chair, so it stays.
    if are_alike(row, line, place):
        return row[:]
    return line[:place]


def shelf_at(entries, place):
    shelf = Shelf()
    for entry in entries[:place]:
        what = entry[1]
        if what[0] == "ask":
            shelf.do(what[1], what[2], what[3])
    return shelf


def answer_at(entries, place):
    what = entries[place - 1][1]
    # The shelf has done this ask already; handed it again, it gives the answer that it kept.
    return shelf_at(entries, place).do(what[1], what[2], what[3])
