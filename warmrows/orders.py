"""Orders: how a kind and all above it stand in one row, or why they can't."""

from warmrows.errors import NoOrder
from warmrows.families import check_kind, elders_first


def order_of(family, kind):
    """("order", ORDER) of a kind, or ("quarrel", AT, RING)."""
    check_kind(kind, dict(family))
    return tell_orders(family)[kind]


def rows_for(family, kind):
    """The rows of a kind: its elders' orders, and last its elders."""
    elders_of = dict(family)
    check_kind(kind, elders_of)
    told = tell_orders(family)
    if quarrel_among(elders_of[kind], told) is not None:
        raise NoOrder("an elder has no order")
    return rows_by(elders_of[kind], told)


def tell_orders(family):
    """What is told of the order of each kind, in a dict."""
    elders_of = dict(family)
    told = {}
    # Elders come first, so that each order is worked out once.
    for kind in elders_first(family):
        quarrel = quarrel_among(elders_of[kind], told)
        if quarrel is None:
            told[kind] = merge_rows(kind, rows_by(elders_of[kind], told))
        else:
            told[kind] = quarrel
    return told


def has_quarrel(told):
    """Whether some kind has no order, by what is told of each."""
    return quarrel_among(list(told), told) is not None


def quarrel_among(kinds, told):
    """The first quarrel that is told of these kinds, or None."""
    for kind in kinds:
        if told[kind][0] == "quarrel":
            return told[kind]
    return None


def rows_by(elders, told):
    """The rows that these elders make, all of which have orders."""
    return tuple([told[elder][1] for elder in elders]) + (elders,)


def merge_rows(kind, rows):
    """The order that these rows make for a kind, or their quarrel."""
    order = [kind]
    left = rows
    while any(left):
        first = first_free(left)
        if first is None:
            return ("quarrel", kind, ring_among(left))
        order.append(first)
        # Rows that are used up stay as empty ones, so that all keep their numbers.
        left = [[name for name in row if name != first] for row in left]
    return ("order", tuple(order))


def first_free(left):
    """The first kind at a row's front that stands behind none, or None."""
    held = {}
    for row in left:
        for name in row[1:]:
            held[name] = True
    for row in left:
        if row and row[0] not in held:
            return row[0]
    return None


def ring_among(left):
    """A ring of quarrels among rows whose fronts are all held."""
    name = [row[0] for row in left if row][0]
    # Each front is held by another front, so this way comes round within them.
    holds = {}
    while name not in holds:
        holds[name] = hold_of(name, left)
        name = holds[name][0]
    ring = [holds[name]]
    while ring[-1][0] != name:
        ring.append(holds[ring[-1][0]])
    return tuple(ring[::-1])


def hold_of(name, left):
    """(X, name, ROW): the front X of the first row in which the name stands behind it."""
    number = [at for at, row in enumerate(left) if name in row[1:]][0]
    return (left[number][0], name, number)
