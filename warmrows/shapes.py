"""Shapes: which fields a thing has, by the row of its puts and drops."""

from warmrows.errors import NoField, NoShape
from warmrows.families import is_whole


def is_shape(shapes, thing):
    """Whether a thing of any kind is a shape's number."""
    return is_whole(thing) and 0 <= thing < len(shapes)


def fields_at(shapes, number):
    """The fields of the shape with a number."""
    if not is_shape(shapes, number):
        raise NoShape("no shape has this number")
    fields = []
    for step in story_of(shapes, number):
        if step[1] == "put":
            fields.append(step[2])
        else:
            fields.remove(step[2])
    return tuple(fields)


def story_of(shapes, number):
    """The steps from the shape without fields to this one."""
    story = []
    at = number
    while at > 0:
        story.append(shapes[at])
        at = shapes[at][0]
    return story[::-1]


def shape_by(shapes, number, deed, field):
    """(SHAPES, NUMBER): the shape that comes of one by a deed of a field."""
    fields = fields_at(shapes, number)
    if not can_come(fields, deed, field):
        raise NoField("the field can't be put or dropped there")
    step = (number, deed, field)
    if step in shapes:
        return (shapes, shapes.index(step))
    return (shapes + (step,), len(shapes))


def can_come(fields, deed, field):
    """Whether a deed of a field can be done where these fields are."""
    if deed == "put":
        return isinstance(field, str) and field not in fields
    return deed == "drop" and field in fields
