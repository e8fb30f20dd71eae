"""Machine: states of a good book's runs by plain rows."""

from warmrows.desks import Engine, state_of
from warmrows.engine import go_on
from warmrows.runs import check_limit
from warmrows.shapes import fields_at


class Notes:
    """It remembers nothing for the rows, and notes all that they ask."""

    def __init__(self):
        self.noted = []

    def recall(self, body, row, who, number):
        """The record that answers an ask: there is none."""
        return None

    def hear(self, many, body, row, record):
        """An ask was told its answer, while there were so many frames."""
        self.noted.append((many, body, row) + record)

    def lays(self, body):
        """Whether a body that was asked for is gone through in line."""
        return False


def started(book):
    """The state at the start."""
    table, bodies = book
    return (0, ((0, None, 0, (None,) * bodies[0][3], ()),), (), table, ((),), (), None)


def gone_on(book, state, limit):
    """The state where a run stops by a limit."""
    check_limit(limit)
    engine = Engine(book, state, Notes())
    go_on(engine, limit)
    return state_of(engine)


def telling(state):
    """(ENDING, EVENTS, STEPS, THINGS, TABLE) of a state."""
    steps, frames, things, table, shapes, events, ending = state
    told = [(kind, tuple(zip(fields_at(shapes, shape), values))) for kind, shape, values in things]
    return (ending, events, steps, tuple(told), table)


def asks_of(book, state, limit):
    """All asks on the way to a limit: tuples (MANY, BODY, ROW, WHO, NUMBER, ANSWER)."""
    check_limit(limit)
    notes = Notes()
    go_on(Engine(book, state, notes), limit)
    return tuple(notes.noted)
