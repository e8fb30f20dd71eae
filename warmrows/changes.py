"""Changes of a table: what comes of them, what they turn, and the way back."""

from warmrows.errors import NoChange
from warmrows.families import are_kinds, beneath, is_kind, is_name, is_tuple_of, kinds_of
from warmrows.orders import has_quarrel, tell_orders
from warmrows.tables import behind, family_of, found, is_body_number, new_fields, own_body, row_at


def changed(table, change):
    """The table behind a change."""
    if not is_change(table, change):
        raise NoChange("form")
    if change[0] == "own":
        after = with_own(table, change[1], change[2], change[3])
    else:
        after = with_elders(table, change[1], change[2])
    return with_raised(after, raised_by(table, change[1]))


def turned(table, change):
    """(RAISED, LOOKS, UPS, NEWS): what a change turns."""
    after = changed(table, change)
    raised = raised_by(table, change[1])
    looks = turned_looks(table, after, raised)
    ups = turned_ups(table, after, raised)
    news = [kind for kind in raised if new_fields(table, kind) != new_fields(after, kind)]
    return (raised, tuple(sorted(looks)), tuple(sorted(ups)), tuple(news))


def back(table, change):
    """The change that takes a change back."""
    # What is refused there is refused here.
    changed(table, change)
    row = row_at(table, change[1])
    if change[0] == "own":
        return ("own", change[1], change[2], own_body(row, change[2]))
    return ("elders", change[1], row[1])


def is_change(table, thing):
    """Whether a thing of any kind has a change's form."""
    kinds = kinds_of(table)
    if is_tuple_of(thing, 4):
        return is_word(thing[0], "own") and is_kind(thing[1], kinds) and is_own(thing[2], thing[3])
    if is_tuple_of(thing, 3):
        return is_word(thing[0], "elders") and is_kind(thing[1], kinds) and are_kinds(thing[2], kinds)
    return False


def is_word(thing, word):
    """Whether a thing of any kind is this very word."""
    return isinstance(thing, str) and thing == word


def is_own(deed, body):
    """Whether these are a deed and a body that it may have, or None."""
    return is_name(deed) and (body is None or is_body_number(body))


def raised_by(table, kind):
    """The kinds whose number rises by a change of a kind, as the table has them."""
    under = beneath(family_of(table), kind)
    return tuple([name for name in kinds_of(table) if name == kind or name in under])


def with_raised(table, kinds):
    """The table with the number of each of these kinds one more."""
    return tuple([row[:5] + (row[5] + 1,) if row[0] in kinds else row for row in table])


def with_own(table, kind, deed, body):
    """The table in which a kind itself has a deed with a body, or has it no more."""
    row = row_at(table, kind)
    if body is None and own_body(row, deed) is None:
        raise NoChange("nodeed")
    deeds = [pair for pair in row[4] if pair[0] != deed]
    if body is not None:
        deeds.append((deed, body))
    new_row = row[:4] + (tuple(sorted(deeds)), row[5])
    return tuple([new_row if old[0] == kind else old for old in table])


def with_elders(table, kind, elders):
    """The table in which a kind has other elders, with the orders that come of it."""
    if any([name in elders for name in raised_by(table, kind)]):
        raise NoChange("ring")
    family = tuple([(row[0], elders if row[0] == kind else row[1]) for row in table])
    told = tell_orders(family)
    if has_quarrel(told):
        raise NoChange("quarrel")
    return tuple([pair + (told[pair[0]][1],) + row[3:] for pair, row in zip(family, table)])


def deeds_in(table):
    """All deeds that some kind itself has, each once."""
    return list({pair[0]: True for row in table for pair in row[4]})


def turned_looks(table, after, kinds):
    """All (KIND, DEED) of these kinds whose look tells otherwise behind a change."""
    turns = []
    for kind in kinds:
        for deed in deeds_in(table + after):
            if found(table, kind, deed) != found(after, kind, deed):
                turns.append((kind, deed))
    return turns


def turned_ups(table, after, kinds):
    """All (KIND, HOME, DEED) of these kinds whose look behind HOME tells otherwise behind a change."""
    turns = []
    for kind in kinds:
        for home in kinds_of(table):
            for deed in deeds_in(table + after):
                if behind(table, kind, home, deed) != behind(after, kind, home, deed):
                    turns.append((kind, home, deed))
    return turns
