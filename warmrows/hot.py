"""Hot runs: warm rows that go through often met bodies in line."""

from warmrows.desks import Engine, desks_by, frames_of, state_of
from warmrows.engine import go_on
from warmrows.machine import started
from warmrows.places import check_warming
from warmrows.runs import check_limit
from warmrows.warm import Memory, places_in


class Hot:
    """A hot run of a good book by a warming."""

    def __init__(self, book, warming):
        check_warming(warming)
        self.memory = Memory(warming, (), True)
        self.engine = Engine(book, started(book), self.memory)

    def go(self, limit):
        """Go on to a limit."""
        check_limit(limit)
        go_on(self.engine, limit)

    def cool(self):
        """Forget all places, and turn lines to frames."""
        memory, engine = self.memory, self.engine
        memory.known = {}
        engine.frames = desks_by(frames_of(engine))

    def state(self):
        """The state."""
        return state_of(self.engine)

    def places(self):
        """PLACES."""
        return places_in(self.memory)

    def counts(self):
        """(FRAMES, LINES): how many asks made a frame, and how many were gone through in line."""
        return (self.engine.frames_made, self.engine.lines_made)
