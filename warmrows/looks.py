"""Looks: by what a row asks, and what looking tells it."""

from warmrows.shapes import fields_at, shape_by
from warmrows.tables import behind, found, new_fields, row_at

# The rows that ask by a thing's shape; all others ask by a kind, whose number tells how old an answer is.
SHAPED = ("get", "put", "drop")


def number_for(table, word, who):
    """The number that a row of this word asks by, beside who."""
    if word in SHAPED:
        return 0
    return row_at(table, who[0] if word == "up" else who)[5]


def looked(table, shapes, row, who):
    """(SHAPES, ANSWER): what looking tells a row that asks by who, and the shapes then."""
    deed = LOOKS[row[0]]
    return deed(table, shapes, row[1], who)


def look_get(table, shapes, field, shape):
    """Where a field's value is."""
    fields = fields_at(shapes, shape)
    if field not in fields:
        return (shapes, None)
    return (shapes, (fields.index(field), shape))


def look_put(table, shapes, field, shape):
    """Where a field's value is or will be, and the shape behind it."""
    fields = fields_at(shapes, shape)
    if field in fields:
        return (shapes, (fields.index(field), shape))
    shapes, after = shape_by(shapes, shape, "put", field)
    return (shapes, (len(fields), after))


def look_drop(table, shapes, field, shape):
    """Where a field's value is, and the shape without it."""
    fields = fields_at(shapes, shape)
    if field not in fields:
        return (shapes, None)
    shapes, after = shape_by(shapes, shape, "drop", field)
    return (shapes, (fields.index(field), after))


def look_new(table, shapes, kind, who):
    """The shape of a kind's new things."""
    shape = 0
    for field in new_fields(table, who):
        shapes, shape = shape_by(shapes, shape, "put", field)
    return (shapes, shape)


def look_ask(table, shapes, deed, kind):
    """The home and the body of a deed."""
    return (shapes, found(table, kind, deed))


def look_up(table, shapes, deed, who):
    """The home and the body of a deed behind a home."""
    return (shapes, behind(table, who[0], who[1], deed))


LOOKS = {
    "get": look_get,
    "put": look_put,
    "drop": look_drop,
    "new": look_new,
    "ask": look_ask,
    "up": look_up,
}
