"""Warm rows: runs whose asks are remembered at the rows' places."""

from warmrows.desks import Engine, state_of
from warmrows.engine import go_on
from warmrows.places import NEW_PLACE, asked, check_warming, record_for
from warmrows.runs import check_limit

MOST_LINE_ROWS = 20
NOT_IN_LINE = ("go", "unless", "keep", "round")


class Memory:
    """The places of a run; hot tells whether bodies may be gone through in line."""

    def __init__(self, warming, places, hot):
        self.warming = warming
        self.known = {(body, row): place for body, row, place in places}
        self.hot = hot
        self.last_word = None
        self.last_place = None

    def recall(self, body, row, who, number):
        """The record that answers an ask, or None."""
        place = self.known.get((body, row), NEW_PLACE)
        return record_for(place, who, number)

    def hear(self, many, body, row, record):
        """An ask was told its answer: its place is asked."""
        who, number, answer = record
        place = self.known.get((body, row), NEW_PLACE)
        told = asked(self.warming, place, who, number, answer)
        self.last_place = told[0]
        self.last_word = told[1]
        self.known[(body, row)] = told[0]

    def lays(self, body):
        """Whether a body that was asked for last is gone through in line."""
        if not self.hot or self.last_word != "hit" or not fits_in_line(body):
            return False
        records, tally = self.last_place[2:]
        return len(records) == 1 and tally[1] > self.warming[3]


def fits_in_line(body):
    """Whether a body has few rows, one way through them, and no catches."""
    if body[1] != () or len(body[0]) > MOST_LINE_ROWS:
        return False
    return all([row[0] not in NOT_IN_LINE for row in body[0]])


def places_in(memory):
    """PLACES, rising by body and row."""
    return tuple([at + (memory.known[at],) for at in sorted(memory.known)])


def warm_on(book, warming, state, places, limit):
    """(STATE, PLACES) where a run by warm rows stops by a limit."""
    check_warming(warming)
    check_limit(limit)
    memory = Memory(warming, places, False)
    engine = Engine(book, state, memory)
    go_on(engine, limit)
    return (state_of(engine), places_in(memory))
