"""The parts of programs: statements and expressions, their forms and bounds."""

from warmrows.families import are_kinds, is_kind, is_name, is_whole

MOST_NUMBER = 999999999
MOST_ARGS = 3
MOST_WITHIN = 4
MOST_BLOCKS = 3
MOST_STATEMENTS = 16
MOST_X = 20

# What stands behind each word, in the order in which it is written: "x" a name that a body has, "name" one of
# a deed or a field, "e" an expression.
EXPRESSIONS = {
    "me": (),
    "name": ("x",),
    "new": ("kind",),
    "get": ("e", "name"),
    "ask": ("e", "name", "args"),
    "up": ("name", "args"),
    "plus": ("e", "e"),
    "minus": ("e", "e"),
    "less": ("e", "e"),
    "alike": ("e", "e"),
    "or": ("e", "e"),
}
STATEMENTS = {
    "let": ("x", "e"),
    "put": ("e", "name", "e"),
    "drop": ("e", "name"),
    "tell": ("e",),
    "do": ("e",),
    "give": ("e",),
    "throw": ("e",),
    "become": ("e", "kind"),
    "if": ("e", "block", "block"),
    "while": ("e", "block"),
    "repeat": ("e", "block"),
    "try": ("block", "x", "block"),
    "turn": ("kind", "name", "kind", "name"),
    "strip": ("kind", "name"),
    "elders": ("kind", "elders"),
}


def is_body(params, block, kinds):
    """Whether a thing of any kind is a body's block, with these params, in a program of these kinds."""
    if not is_block(block, kinds, MOST_BLOCKS) or count_statements(block) > MOST_STATEMENTS:
        return False
    return len(set(list(params) + names_in(block))) <= MOST_X


def is_block(thing, kinds, blocks):
    """Whether a thing is a block, at most so many within one another, this one counted."""
    if blocks < 1 or not isinstance(thing, tuple) or len(thing) > MOST_STATEMENTS:
        return False
    return all([is_statement(part, kinds, blocks - 1) for part in thing])


def is_statement(thing, kinds, blocks):
    """Whether a thing is a statement, with at most so many blocks within one another in it."""
    if not has_word(thing):
        return False
    return has_parts(thing, STATEMENTS.get(thing[0]), kinds, MOST_WITHIN, blocks)


def is_expression(thing, kinds, within):
    """Whether a thing is an expression, at most so many within one another, this one counted."""
    if within < 1:
        return False
    if thing is None:
        return True
    if is_whole(thing):
        return 0 <= thing <= MOST_NUMBER
    if not has_word(thing):
        return False
    return has_parts(thing, EXPRESSIONS.get(thing[0]), kinds, within - 1, 0)


def has_word(thing):
    """Whether a thing is a tuple with a text ahead."""
    return isinstance(thing, tuple) and len(thing) > 0 and isinstance(thing[0], str)


def has_parts(thing, forms, kinds, within, blocks):
    """Whether what stands behind a tuple's word has these forms; None where there is no such word."""
    if forms is None or len(thing) != 1 + len(forms):
        return False
    return all([is_part(form, part, kinds, within, blocks) for form, part in zip(forms, thing[1:])])


def is_part(form, thing, kinds, within, blocks):
    """Whether a thing has the form of a part."""
    if form == "e":
        return is_expression(thing, kinds, within)
    if form == "args":
        return are_args(thing, kinds, within)
    if form == "block":
        return is_block(thing, kinds, blocks)
    if form == "kind":
        return is_kind(thing, kinds)
    if form == "elders":
        return are_kinds(thing, kinds)
    return is_name(thing)


def are_args(thing, kinds, within):
    """Whether a thing is a tuple of at most three expressions."""
    if not isinstance(thing, tuple) or len(thing) > MOST_ARGS:
        return False
    return all([is_expression(part, kinds, within) for part in thing])


def count_statements(block):
    """How many statements a block has, those within counted."""
    many = len(block)
    for statement in block:
        for form, part in zip(STATEMENTS[statement[0]], statement[1:]):
            if form == "block":
                many += count_statements(part)
    return many


def names_in(block):
    """All X of a block as they are written, each as often as it stands there."""
    names = []
    for statement in block:
        names.extend(names_among(STATEMENTS[statement[0]], statement[1:]))
    return names


def names_among(forms, parts):
    """All X of parts that have these forms."""
    names = []
    for form, part in zip(forms, parts):
        if form == "x":
            names.append(part)
        elif form == "block":
            names.extend(names_in(part))
        elif form == "args":
            names.extend(names_among(["e"] * len(part), part))
        elif form == "e" and isinstance(part, tuple):
            names.extend(names_among(EXPRESSIONS[part[0]], part[1:]))
    return names
