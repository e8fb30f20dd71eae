"""Engine: what each row of a book does, and runs from a state on."""

from warmrows.desks import count_spots, enter, go_to, leave, put_on, row_at_work, spot_at_work, step_on, take_off
from warmrows.desks import throw_out
from warmrows.looks import looked, number_for
from warmrows.runs import check_ask, table_behind
from warmrows.shapes import fields_at
from warmrows.values import Thrown, check_number, is_thing, is_yes, told_of


def go_on(engine, limit):
    """Run rows up to the end, or to a mark that would count one step more than the limit."""
    while engine.frames and not (row_at_work(engine)[0] == "mark" and engine.steps >= limit):
        run_row(engine)


def run_row(engine):
    """Run one row."""
    row = row_at_work(engine)
    try:
        if row[0] in MOVES:
            deed = MOVES[row[0]]
            deed(engine, row)
        else:
            deed = DEEDS[row[0]]
            deed(engine, row)
            step_on(engine)
    except Thrown as e:
        throw_out(engine, e.value)


def take_thing(engine):
    """Take a thing from the pile, and tell its number."""
    return number_of(take_off(engine))


def number_of(value):
    """The number of the thing that a value is."""
    if not is_thing(value):
        raise Thrown("nothing")
    return value[1]


def answer_of(engine, row, who):
    """What an ask is told: what is remembered of it, else what looking tells."""
    spot = spot_at_work(engine)
    number = number_for(engine.table, row[0], who)
    record = engine.memory.recall(spot.body, spot.row, who, number)
    if record is None:
        shapes, answer = looked(engine.table, engine.shapes, row, who)
        engine.shapes = shapes
    else:
        answer = record[2]
    engine.memory.hear(count_spots(engine), spot.body, spot.row, (who, number, answer))
    return answer


def do_mark(engine, row):
    """Count a step."""
    engine.steps += 1


def do_push(engine, row):
    """A value that the row has."""
    put_on(engine, row[1])


def do_name(engine, row):
    """The value of a name."""
    desk = engine.frames[-1]
    put_on(engine, desk.names[desk.spots[-1].names_from + row[1]])


def do_set(engine, row):
    """A name gets a value."""
    desk = engine.frames[-1]
    desk.names[desk.spots[-1].names_from + row[1]] = take_off(engine)


def do_pop(engine, row):
    """A value goes."""
    take_off(engine)


def do_tell(engine, row):
    """An event."""
    engine.events.append(take_off(engine))


def do_pair(engine, row):
    """What is told of two values."""
    second = take_off(engine)
    first = take_off(engine)
    put_on(engine, told_of(row[0], first, second))


def do_new(engine, row):
    """A thing is made."""
    shape = answer_of(engine, row, row[1])
    values = (None,) * len(fields_at(engine.shapes, shape))
    engine.things.append((row[1], shape, values))
    put_on(engine, ("thing", len(engine.things) - 1))


def do_get(engine, row):
    """The value of a thing's field."""
    kind, shape, values = engine.things[take_thing(engine)]
    where, after = field_for(engine, row, shape)
    put_on(engine, values[where])


def do_put(engine, row):
    """A field of a thing gets a value."""
    value = take_off(engine)
    number = take_thing(engine)
    kind, shape, values = engine.things[number]
    where, after = field_for(engine, row, shape)
    engine.things[number] = (kind, after, values[:where] + (value,) + values[where + 1:])


def do_drop(engine, row):
    """A thing loses a field."""
    number = take_thing(engine)
    kind, shape, values = engine.things[number]
    where, after = field_for(engine, row, shape)
    engine.things[number] = (kind, after, values[:where] + values[where + 1:])


def field_for(engine, row, shape):
    """(WHERE, NEXT) of a field that things of this shape have or get."""
    answer = answer_of(engine, row, shape)
    if answer is None:
        raise Thrown("nofield")
    return answer


def do_become(engine, row):
    """A thing gets a kind."""
    number = take_thing(engine)
    engine.things[number] = (row[1],) + engine.things[number][1:]


def do_throw(engine, row):
    """A value is thrown."""
    raise Thrown(take_off(engine))


def do_change(engine, row):
    """The table is changed."""
    engine.table = table_behind(engine.table, row)


DEEDS = {
    "mark": do_mark,
    "push": do_push,
    "name": do_name,
    "set": do_set,
    "pop": do_pop,
    "tell": do_tell,
    "plus": do_pair,
    "minus": do_pair,
    "less": do_pair,
    "alike": do_pair,
    "new": do_new,
    "get": do_get,
    "put": do_put,
    "drop": do_drop,
    "become": do_become,
    "throw": do_throw,
    "turn": do_change,
    "strip": do_change,
    "elders": do_change,
}


def move_go(engine, row):
    """Go on at a row."""
    go_to(engine, row[1])


def move_unless(engine, row):
    """Go on at a row where a value is no."""
    go_to(engine, spot_at_work(engine).row + 1 if is_yes(take_off(engine)) else row[1])


def move_keep(engine, row):
    """Go on at a row where the last value is yes, else take it."""
    value = take_off(engine)
    if is_yes(value):
        put_on(engine, value)
        go_to(engine, row[1])
    else:
        step_on(engine)


def move_round(engine, row):
    """Count down a number, or go on at a row where no round is left."""
    number = take_off(engine)
    check_number(number)
    if number < 1:
        go_to(engine, row[1])
    else:
        put_on(engine, number - 1)
        step_on(engine)


def move_ask(engine, row):
    """Begin the body that a deed of a thing is found to have."""
    args = [take_off(engine) for each in range(row[2])]
    me = take_off(engine)
    kind = engine.things[number_of(me)][0]
    home = spot_at_work(engine).home
    look = answer_of(engine, row, kind if row[0] == "ask" else (kind, home))
    # What is not found has no body, so its params can't be asked.
    params = None if look is None else engine.bodies[look[1]][2]
    check_ask(look, params, row[2], count_spots(engine))
    in_line = row[0] == "ask" and engine.memory.lays(engine.bodies[look[1]])
    enter(engine, look, [me] + args[::-1], in_line)


def move_give(engine, row):
    """End the body, and put what it gives where it was asked for."""
    value = take_off(engine)
    leave(engine)
    if engine.frames:
        put_on(engine, value)
        step_on(engine)
    else:
        engine.ending = ("gave", value)


MOVES = {
    "go": move_go,
    "unless": move_unless,
    "keep": move_keep,
    "round": move_round,
    "ask": move_ask,
    "up": move_ask,
    "give": move_give,
}
