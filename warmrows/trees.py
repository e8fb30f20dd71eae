"""Trees: runs of programs straight by their statements and expressions."""

from warmrows.parts import count_statements
from warmrows.programs import table_of
from warmrows.runs import check_ask, check_limit, table_behind
from warmrows.tables import behind, found, new_fields
from warmrows.values import Thrown, check_number, is_thing, is_yes, told_of


class Stopped(Exception):
    """The run would count a step more than its limit."""


class Thing:
    """A thing, as its run goes on."""

    def __init__(self, kind, fields):
        self.kind = kind
        self.fields = fields


class Frame:
    """A body that runs; statement is the number of the innermost one at work."""

    def __init__(self, body, home, me, names):
        self.body = body
        self.home = home
        self.me = me
        self.names = names
        self.statement = 0


class Run:
    """A run of a program, as it goes on."""

    def __init__(self, program, limit):
        self.bodies = [((), program[2])] + [row[2:] for row in program[1]]
        self.limit = limit
        self.table = table_of(program)
        self.things = []
        self.events = []
        self.steps = 0
        self.frames = []


def run_trees(program, limit):
    """(ENDING, EVENTS, STEPS, THINGS, TABLE) of a program's run up to a limit."""
    check_limit(limit)
    run = Run(program, limit)
    ending = ending_of(run)
    things = [(thing.kind, tuple(thing.fields.items())) for thing in run.things]
    return (ending, tuple(run.events), run.steps, tuple(things), run.table)


def ending_of(run):
    """How a run ends, or None where it stops."""
    try:
        return ("gave", run_body(run, 0, None, None, ()))
    except Stopped:
        return None
    except Thrown as e:
        # Frames are left by give and at a catch alone, so all are there as when it was thrown.
        return ("fault", e.value, tuple([(frame.body, frame.statement) for frame in run.frames]))


def count_step(run):
    """Count a step, or stop the run."""
    if run.steps >= run.limit:
        raise Stopped("the limit is reached")
    run.steps += 1


def run_body(run, body, home, me, args):
    """What a body gives, run in a frame of its own."""
    params, block = run.bodies[body]
    run.frames.append(Frame(body, home, me, dict(zip(params, args))))
    count_step(run)
    given = run_block(run, block, 1)
    run.frames.pop()
    return None if given is None else given[1]


def run_block(run, block, number):
    """Run a block whose first statement has this number; ("gave", VALUE) where it gives, else None."""
    frame = run.frames[-1]
    for statement in block:
        frame.statement = number
        count_step(run)
        deed = RUNS[statement[0]]
        given = deed(run, statement, number)
        if given is not None:
            return given
        number += count_statements((statement,))
    return None


def run_let(run, statement, number):
    """A name gets a value."""
    frame = run.frames[-1]
    frame.names[statement[1]] = work_out(run, statement[2])


def run_put(run, statement, number):
    """A field of a thing gets a value."""
    value = work_out(run, statement[1])
    part = work_out(run, statement[3])
    thing = thing_of(run, value)
    thing.fields[statement[2]] = part


def run_drop(run, statement, number):
    """A thing loses a field."""
    thing = thing_of(run, work_out(run, statement[1]))
    check_field(thing, statement[2])
    thing.fields.pop(statement[2])


def run_tell(run, statement, number):
    """An event."""
    run.events.append(work_out(run, statement[1]))


def run_do(run, statement, number):
    """A value goes."""
    work_out(run, statement[1])


def run_give(run, statement, number):
    """The body ends."""
    return ("gave", work_out(run, statement[1]))


def run_throw(run, statement, number):
    """A value is thrown."""
    raise Thrown(work_out(run, statement[1]))


def run_become(run, statement, number):
    """A thing gets a kind."""
    thing = thing_of(run, work_out(run, statement[1]))
    thing.kind = statement[2]


def run_if(run, statement, number):
    """One of two blocks is run."""
    if is_yes(work_out(run, statement[1])):
        return run_block(run, statement[2], number + 1)
    return run_block(run, statement[3], number + 1 + count_statements(statement[2]))


def run_while(run, statement, number):
    """A block is run as long as a value is yes."""
    while is_yes(work_out(run, statement[1])):
        given = run_block(run, statement[2], number + 1)
        if given is not None:
            return given
        end_round(run, number)
    return None


def run_repeat(run, statement, number):
    """A block is run so many times."""
    rounds = work_out(run, statement[1])
    check_number(rounds)
    while rounds >= 1:
        given = run_block(run, statement[2], number + 1)
        if given is not None:
            return given
        end_round(run, number)
        rounds -= 1
    return None


def end_round(run, number):
    """Count the end of a round, behind which the loop itself is at work again."""
    frame = run.frames[-1]
    frame.statement = number
    count_step(run)


def run_try(run, statement, number):
    """What is thrown in a block becomes a name's value, and another block is run."""
    many = len(run.frames)
    frame = run.frames[-1]
    try:
        return run_block(run, statement[1], number + 1)
    except Thrown as e:
        run.frames = run.frames[:many]
        frame.names[statement[2]] = e.value
    return run_block(run, statement[3], number + 1 + count_statements(statement[1]))


def run_change(run, statement, number):
    """The table is changed."""
    run.table = table_behind(run.table, statement)


RUNS = {
    "let": run_let,
    "put": run_put,
    "drop": run_drop,
    "tell": run_tell,
    "do": run_do,
    "give": run_give,
    "throw": run_throw,
    "become": run_become,
    "if": run_if,
    "while": run_while,
    "repeat": run_repeat,
    "try": run_try,
    "turn": run_change,
    "strip": run_change,
    "elders": run_change,
}


def work_out(run, expression):
    """The value of an expression."""
    if not isinstance(expression, tuple):
        return expression
    deed = WORKS[expression[0]]
    return deed(run, expression)


def work_me(run, expression):
    """The thing whose deed is run."""
    return run.frames[-1].me


def work_name(run, expression):
    """The value of a name."""
    return run.frames[-1].names.get(expression[1])


def work_new(run, expression):
    """A thing that is made."""
    kind = expression[1]
    run.things.append(Thing(kind, {field: None for field in new_fields(run.table, kind)}))
    return ("thing", len(run.things) - 1)


def work_get(run, expression):
    """The value of a thing's field."""
    thing = thing_of(run, work_out(run, expression[1]))
    check_field(thing, expression[2])
    return thing.fields[expression[2]]


def work_ask(run, expression):
    """What a deed of a thing gives."""
    value = work_out(run, expression[1])
    args = [work_out(run, arg) for arg in expression[3]]
    look = found(run.table, thing_of(run, value).kind, expression[2])
    return run_found(run, value, look, args)


def work_up(run, expression):
    """What a deed of me gives, by a look behind the home of the body that asks."""
    args = [work_out(run, arg) for arg in expression[2]]
    frame = run.frames[-1]
    look = behind(run.table, thing_of(run, frame.me).kind, frame.home, expression[1])
    return run_found(run, frame.me, look, args)


def work_pair(run, expression):
    """What is told of two values."""
    first = work_out(run, expression[1])
    second = work_out(run, expression[2])
    return told_of(expression[0], first, second)


def work_or(run, expression):
    """The first value where it is yes, else the second."""
    first = work_out(run, expression[1])
    return first if is_yes(first) else work_out(run, expression[2])


WORKS = {
    "me": work_me,
    "name": work_name,
    "new": work_new,
    "get": work_get,
    "ask": work_ask,
    "up": work_up,
    "plus": work_pair,
    "minus": work_pair,
    "less": work_pair,
    "alike": work_pair,
    "or": work_or,
}


def run_found(run, me, look, args):
    """What the body that a look finds gives, with these args."""
    # What is not found has no body, so its params can't be asked.
    params = () if look is None else run.bodies[look[1]][0]
    check_ask(look, len(params), len(args), len(run.frames))
    return run_body(run, look[1], look[0], me, args)


def thing_of(run, value):
    """The thing that a value is."""
    if not is_thing(value):
        raise Thrown("nothing")
    return run.things[value[1]]


def check_field(thing, field):
    """Throw where a thing hasn't a field."""
    if field not in thing.fields:
        raise Thrown("nofield")
