"""Lies: which records would be told though looking tells otherwise."""

from warmrows.looks import SHAPED, looked, number_for
from warmrows.shapes import is_shape


def lies(book, state, places):
    """All records that lie by a state: tuples (BODY, ROW, WHO, NUMBER)."""
    table, shapes = state[3:5]
    told = []
    for body, row, place in places:
        for record in place[2]:
            if is_lie(table, shapes, book[1][body][0][row], record):
                told.append((body, row) + record[:2])
    return tuple(told)


def is_lie(table, shapes, row, record):
    """Whether a record of a row lies, by a table and shapes."""
    who, number, answer = record
    if names_no_shape(shapes, row[0], answer):
        return True
    if row[0] in SHAPED:
        return not is_shape(shapes, who) or looked(table, shapes, row, who)[1] != answer
    there = number_for(table, row[0], who)
    return number > there or (number == there and looked(table, shapes, row, who)[1] != answer)


def names_no_shape(shapes, word, answer):
    """Whether an answer to a row of this word names a shape that isn't there."""
    if answer is None or word in ("ask", "up"):
        return False
    return not is_shape(shapes, answer if word == "new" else answer[1])
