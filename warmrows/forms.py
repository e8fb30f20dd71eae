"""Forms: what the bodies of a book look like, whatever comes of their rows."""

from warmrows.families import are_kinds, is_kind, is_name, is_tuple_of, is_whole
from warmrows.parts import has_word
from warmrows.values import is_number
from warmrows.ways import ENDS, LEAPS, leads_of

MOST_PARAMS = 3
MOST_NAMES = 21
MOST_ASKED = 3
MOST_STATEMENT = 99

# What stands behind each word: "i" a name's number, "t" a row's, "s" a statement's, "n" how many values are
# taken beside a thing, "v" what is pushed, "name" a deed or a field.
ROWS = {
    "mark": ("s",),
    "push": ("v",),
    "name": ("i",),
    "set": ("i",),
    "pop": (),
    "get": ("name",),
    "put": ("name",),
    "drop": ("name",),
    "become": ("kind",),
    "new": ("kind",),
    "plus": (),
    "minus": (),
    "less": (),
    "alike": (),
    "tell": (),
    "throw": (),
    "give": (),
    "turn": ("kind", "name", "kind", "name"),
    "strip": ("kind", "name"),
    "elders": ("kind", "elders"),
    "ask": ("name", "n"),
    "up": ("name", "n"),
    "go": ("t",),
    "unless": ("t",),
    "keep": ("t",),
    "round": ("t",),
}


def is_among(thing, least, most):
    """Whether a thing of any kind is a whole number between two, both counted."""
    return is_whole(thing) and least <= thing <= most


def is_body_form(thing, kinds):
    """Whether a thing of any kind is a body in rows, of a book with these kinds."""
    if not is_tuple_of(thing, 4):
        return False
    rows, catches, params, names = thing
    if not is_among(params, 0, MOST_PARAMS) or not is_among(names, params + 1, MOST_NAMES):
        return False
    if not are_rows(rows, kinds, names) or not are_catches(catches, rows):
        return False
    return not leads_twice(thing)


def are_rows(thing, kinds, names):
    """Whether a thing of any kind is the rows of a body with so many names."""
    if not isinstance(thing, tuple) or len(thing) == 0:
        return False
    if not all([is_row(row, kinds, names, len(thing)) for row in thing]):
        return False
    if thing[0][0] != "mark" or thing[-1][0] not in ENDS:
        return False
    return all([row[1] > at or is_mark(thing[row[1]]) for at, row in enumerate(thing) if row[0] in LEAPS])


def is_mark(row):
    """Whether a row is a mark, at which alone rows may go back."""
    return row[0] == "mark"


def is_row(thing, kinds, names, many):
    """Whether a thing of any kind is one of so many rows."""
    if not has_word(thing) or thing[0] not in ROWS:
        return False
    forms = ROWS[thing[0]]
    if len(thing) != 1 + len(forms):
        return False
    return all([is_row_part(form, part, kinds, names, many) for form, part in zip(forms, thing[1:])])


def is_row_part(form, thing, kinds, names, many):
    """Whether a thing of any kind has the form of a row's part."""
    if form == "kind":
        return is_kind(thing, kinds)
    if form == "elders":
        return are_kinds(thing, kinds)
    if form == "name":
        return is_name(thing)
    if form == "v":
        return thing is None or is_number(thing)
    if form == "i":
        return is_among(thing, 0, names - 1)
    if form == "t":
        return is_among(thing, 0, many - 1)
    return is_among(thing, 0, MOST_ASKED if form == "n" else MOST_STATEMENT)


def are_catches(thing, rows):
    """Whether a thing of any kind is the catches of a body with these rows."""
    return isinstance(thing, tuple) and all([is_catch(catch, rows) for catch in thing])


def is_catch(thing, rows):
    """Whether a thing of any kind is a catch of a body with these rows."""
    if not is_tuple_of(thing, 4) or not all([is_whole(part) and part >= 0 for part in thing]):
        return False
    first, end, at, height = thing
    if not first <= end <= len(rows) or at >= len(rows):
        return False
    return at >= end or is_mark(rows[at])


def leads_twice(body):
    """Whether a row of a body leads to one row twice."""
    leads = [leads_of(body, row) for row in range(len(body[0]))]
    return any([len(set(after)) < len(after) for after in leads])
