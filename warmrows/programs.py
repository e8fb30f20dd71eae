"""Programs: kinds, deeds, and a block that is run."""

from warmrows.families import is_family, is_kind, is_name, is_tuple_of, kinds_of
from warmrows.orders import has_quarrel, tell_orders
from warmrows.parts import is_body
from warmrows.tables import are_few_names, family_of

MOST_DEEDS = 8


def is_program(thing):
    """Whether a thing of any kind is a program."""
    if not is_tuple_of(thing, 3) or not are_kind_rows(thing[0]):
        return False
    kinds = kinds_of(thing[0])
    return are_deed_rows(thing[1], kinds) and is_body((), thing[2], kinds)


def are_kind_rows(thing):
    """Whether a thing of any kind is a program's kinds."""
    if not isinstance(thing, tuple) or not all([is_tuple_of(row, 3) for row in thing]):
        return False
    family = family_of(thing)
    if not is_family(family) or not stand_elders_ahead(family) or has_quarrel(tell_orders(family)):
        return False
    return all([are_few_names(row[2]) for row in thing])


def stand_elders_ahead(family):
    """Whether all elders stand ahead of their kinds."""
    ahead = {}
    for kind, elders in family:
        if not all([elder in ahead for elder in elders]):
            return False
        ahead[kind] = True
    return True


def are_deed_rows(thing, kinds):
    """Whether a thing of any kind is the deeds of a program of these kinds."""
    if not isinstance(thing, tuple) or len(thing) > MOST_DEEDS:
        return False
    if not all([is_deed_row(row, kinds) for row in thing]):
        return False
    return len(set([row[:2] for row in thing])) == len(thing)


def is_deed_row(thing, kinds):
    """Whether a thing of any kind is a deed in a program of these kinds."""
    if not is_tuple_of(thing, 4) or not is_kind(thing[0], kinds) or not is_name(thing[1]):
        return False
    return are_few_names(thing[2]) and is_body(thing[2], thing[3], kinds)


def table_of(program):
    """The table of a program, at the start of its runs."""
    kinds, deeds, run = program
    told = tell_orders(family_of(kinds))
    rows = []
    for kind, elders, fields in kinds:
        rows.append((kind, elders, told[kind][1], fields, own_deeds(deeds, kind), 0))
    return tuple(rows)


def own_deeds(deeds, kind):
    """The deeds that a kind itself has, with the numbers of their bodies, names rising."""
    return tuple(sorted([(row[1], number) for number, row in enumerate(deeds, start=1) if row[0] == kind]))
