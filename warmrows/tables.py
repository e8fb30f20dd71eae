"""Tables: kinds with their orders, fields, own deeds and numbers, and looks for deeds."""

from warmrows.families import check_kind, is_family, is_kind, is_name, is_tuple_of, is_whole, kinds_of
from warmrows.orders import tell_orders

MOST_NAMES = 3
MOST_BODY = 99


def is_table(thing):
    """Whether a thing of any kind is a table."""
    if not isinstance(thing, tuple) or not all([is_tuple_of(row, 6) for row in thing]):
        return False
    family = family_of(thing)
    if not is_family(family):
        return False
    told = tell_orders(family)
    return all([is_order(row[2], told[row[0]]) and has_good_rest(row) for row in thing])


def family_of(table):
    """The family that the kinds of a table and their elders make."""
    return tuple([(row[0], row[1]) for row in table])


def is_order(thing, told):
    """Whether a thing is the very order that is told of a kind."""
    if not isinstance(thing, tuple) or not all([isinstance(part, str) for part in thing]):
        return False
    return told == ("order", thing)


def has_good_rest(row):
    """Whether the fields, the deeds and the number of a table's row are good."""
    return are_few_names(row[3]) and are_deeds(row[4]) and is_whole(row[5]) and row[5] >= 0


def are_few_names(thing):
    """Whether a thing is a tuple of at most three unlike names."""
    if not isinstance(thing, tuple) or len(thing) > MOST_NAMES:
        return False
    return all([is_name(part) for part in thing]) and len(set(thing)) == len(thing)


def is_body_number(thing):
    """Whether a thing is the number of a body that a kind may have as a deed."""
    return is_whole(thing) and 1 <= thing <= MOST_BODY


def are_deeds(thing):
    """Whether a thing is a tuple of deeds and their bodies, names rising."""
    if not isinstance(thing, tuple) or not all([is_deed(pair) for pair in thing]):
        return False
    return all([one[0] < other[0] for one, other in zip(thing, thing[1:])])


def is_deed(thing):
    """Whether a thing is a deed's name with the number of its body."""
    return is_tuple_of(thing, 2) and is_name(thing[0]) and is_body_number(thing[1])


def row_at(table, kind):
    """The row of a kind of the table."""
    check_kind(kind, kinds_of(table))
    return [row for row in table if row[0] == kind][0]


def own_body(row, deed):
    """The body that a row's kind itself has as a deed, or None."""
    for name, body in row[4]:
        if name == deed:
            return body
    return None


def look_along(table, kinds, deed):
    """(HOME, BODY) of the first of these kinds that has the deed itself, or None."""
    for home in kinds:
        body = own_body(row_at(table, home), deed)
        if body is not None:
            return (home, body)
    return None


def found(table, kind, deed):
    """What a look for a deed of a kind tells."""
    return look_along(table, row_at(table, kind)[2], deed)


def behind(table, kind, home, deed):
    """What a look for a deed of a kind tells behind a home, whatever that is."""
    order = row_at(table, kind)[2]
    if not is_kind(home, order):
        return None
    return look_along(table, order[order.index(home) + 1:], deed)


def new_fields(table, kind):
    """The fields of a kind's new things."""
    fields = {}
    for name in reversed(row_at(table, kind)[2]):
        for field in row_at(table, name)[3]:
            fields[field] = True
    return tuple(fields)
