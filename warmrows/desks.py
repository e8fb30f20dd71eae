"""Desks: what a run by rows holds as it goes on: frames and the lines within them, names and piles."""

from warmrows.ways import first_catch


class Spot:
    """Where a body is at work; its names and its pile are those of its frame from these places on."""

    def __init__(self, body, home, row, names_from, pile_from):
        self.body = body
        self.home = home
        self.row = row
        self.names_from = names_from
        self.pile_from = pile_from


class Desk:
    """A frame: its names and its pile, its own spot first, and behind it those of the lines within it."""

    def __init__(self, names, pile, spot):
        self.names = names
        self.pile = pile
        self.spots = [spot]


class Engine:
    """A run as it goes on; memory hears of all asks, and may tell what was told ahead."""

    def __init__(self, book, state, memory):
        steps, frames, things, table, shapes, events, ending = state
        self.bodies = book[1]
        self.memory = memory
        self.steps = steps
        self.frames = desks_by(frames)
        self.things = list(things)
        self.table = table
        self.shapes = shapes
        self.events = list(events)
        self.ending = ending
        self.frames_made = 0
        self.lines_made = 0


def desks_by(frames):
    """The frames of a run by what is told of them."""
    return [Desk(list(names), list(pile), Spot(body, home, row, 0, 0)) for body, home, row, names, pile in frames]


def state_of(engine):
    """(STEPS, FRAMES, THINGS, TABLE, SHAPES, EVENTS, ENDING) of a run."""
    things, events = tuple(engine.things), tuple(engine.events)
    return (engine.steps, frames_of(engine), things, engine.table, engine.shapes, events, engine.ending)


def frames_of(engine):
    """What is told of the frames of a run, lines being frames."""
    told = []
    for desk in engine.frames:
        told.extend(told_at(desk))
    return tuple(told)


def told_at(desk):
    """What is told of a frame and of the lines within it."""
    told = []
    names_to, pile_to = len(desk.names), len(desk.pile)
    for spot in desk.spots[::-1]:
        names = tuple(desk.names[spot.names_from:names_to])
        pile = tuple(desk.pile[spot.pile_from:pile_to])
        told.append((spot.body, spot.home, spot.row, names, pile))
        names_to, pile_to = spot.names_from, spot.pile_from
    return told[::-1]


def count_spots(engine):
    """How many frames there are, lines being frames."""
    return sum([len(desk.spots) for desk in engine.frames])


def spot_at_work(engine):
    """The spot of the body that is at work."""
    return engine.frames[-1].spots[-1]


def row_at_work(engine):
    """The row that is run then."""
    spot = spot_at_work(engine)
    return engine.bodies[spot.body][0][spot.row]


def step_on(engine):
    """The next row is at work."""
    spot = spot_at_work(engine)
    spot.row += 1


def go_to(engine, row):
    """Another row is at work."""
    spot = spot_at_work(engine)
    spot.row = row


def put_on(engine, value):
    """Put a value on the pile."""
    desk = engine.frames[-1]
    desk.pile.append(value)


def take_off(engine):
    """Take the last value from the pile."""
    desk = engine.frames[-1]
    return desk.pile.pop()


def throw_out(engine, value):
    """What is thrown goes on at the first catch, inner bodies ending ahead of it; without any it ends the run."""
    points = points_of(engine)
    while engine.frames:
        spot = spot_at_work(engine)
        catch = first_catch(engine.bodies[spot.body], spot.row)
        if catch is not None:
            desk = engine.frames[-1]
            desk.pile = desk.pile[:spot.pile_from + catch[3]] + [value]
            spot.row = catch[2]
            return
        leave(engine)
    engine.ending = ("fault", value, points)


def points_of(engine):
    """(BODY, STATEMENT) of each frame, lines being frames."""
    points = []
    for desk in engine.frames:
        for spot in desk.spots:
            points.append((spot.body, statement_at(engine.bodies[spot.body][0], spot.row)))
    return tuple(points)


def statement_at(rows, row):
    """The statement of the last mark at a row or ahead of it."""
    return [part[1] for part in rows[:row + 1] if part[0] == "mark"][-1]


def enter(engine, look, values, in_line):
    """Begin a body that a look found, in a frame of its own or in line; values are me and its params."""
    home, body = look
    names = values + [None] * (engine.bodies[body][3] - len(values))
    if in_line:
        desk = engine.frames[-1]
        desk.spots.append(Spot(body, home, 0, len(desk.names), len(desk.pile)))
        desk.names.extend(names)
        engine.lines_made += 1
    else:
        engine.frames.append(Desk(names, [], Spot(body, home, 0, 0, 0)))
        engine.frames_made += 1


def leave(engine):
    """End the body that is at work."""
    desk = engine.frames[-1]
    spot = desk.spots.pop()
    desk.names = desk.names[:spot.names_from]
    desk.pile = desk.pile[:spot.pile_from]
    if not desk.spots:
        engine.frames.pop()
