"""Rows: the bodies of a program laid out in rows that take from a pile and put there."""

from warmrows.parts import EXPRESSIONS, STATEMENTS, names_in
from warmrows.programs import table_of

# The statements whose rows have other words than they.
ROW_WORDS = {"let": "set", "do": "pop"}


class Sheet:
    """A body's rows as they are laid out; numbers are those of its names."""

    def __init__(self, numbers):
        self.numbers = numbers
        self.rows = []
        self.catches = []
        self.statement = 0
        self.repeats = 0

    def lay(self, row):
        """Lay a row behind all others."""
        self.rows.append(row)

    def leave(self):
        """Leave a row open that goes on at one further down; its number."""
        self.rows.append(None)
        return len(self.rows) - 1

    def lead(self, at, word):
        """Fill the row that was left open: it goes on behind all rows so far."""
        self.rows[at] = (word, len(self.rows))


def book_of(program):
    """(TABLE, BODIES) of a program."""
    kinds, deeds, run = program
    bodies = [body_of((), run)] + [body_of(params, block) for kind, deed, params, block in deeds]
    return (table_of(program), tuple(bodies))


def body_of(params, block):
    """(ROWS, CATCHES, PARAMS, NAMES) of a body."""
    sheet = Sheet(number_names(params, block))
    sheet.lay(("mark", 0))
    lay_block(sheet, block)
    sheet.lay(("push", None))
    sheet.lay(("give",))
    # Those of tries within come first then, as the first one that a row has is taken.
    catches = sorted(sheet.catches, key=lambda catch: catch[1])
    return (tuple(sheet.rows), tuple(catches), len(params), 1 + len(sheet.numbers))


def number_names(params, block):
    """The numbers of a body's names, from 1 on, as me has 0."""
    numbers = {}
    for name in list(params) + names_in(block):
        if name not in numbers:
            numbers[name] = 1 + len(numbers)
    return numbers


def lay_block(sheet, block):
    """Lay the rows of a block."""
    for statement in block:
        sheet.statement += 1
        sheet.lay(("mark", sheet.statement))
        word = statement[0]
        if word in NESTS:
            deed = NESTS[word]
            deed(sheet, statement)
        else:
            parts = lay_parts(sheet, STATEMENTS[word], statement[1:])
            sheet.lay((ROW_WORDS.get(word, word),) + parts)


def lay_parts(sheet, forms, parts):
    """Lay the rows of all expressions among parts; what stands in the row behind them is told."""
    left = []
    for form, part in zip(forms, parts):
        if form == "e":
            lay_expression(sheet, part)
        elif form == "args":
            lay_parts(sheet, ["e"] * len(part), part)
            left.append(len(part))
        elif form == "x":
            left.append(sheet.numbers[part])
        else:
            left.append(part)
    return tuple(left)


def lay_expression(sheet, expression):
    """Lay the rows of an expression."""
    if not isinstance(expression, tuple):
        sheet.lay(("push", expression))
        return
    word = expression[0]
    if word == "or":
        lay_or(sheet, expression)
        return
    if word in ("me", "up"):
        sheet.lay(("name", 0))
    parts = lay_parts(sheet, EXPRESSIONS[word], expression[1:])
    if word != "me":
        sheet.lay((word,) + parts)


def lay_or(sheet, expression):
    """Lay the first part, and the second one, which is left out where the first is yes."""
    lay_expression(sheet, expression[1])
    keep = sheet.leave()
    lay_expression(sheet, expression[2])
    sheet.lead(keep, "keep")


def lay_if(sheet, statement):
    """Lay a value and two blocks."""
    lay_expression(sheet, statement[1])
    unless = sheet.leave()
    lay_block(sheet, statement[2])
    over = sheet.leave()
    sheet.lead(unless, "unless")
    lay_block(sheet, statement[3])
    sheet.lead(over, "go")


def lay_while(sheet, statement):
    """Lay a value and a block, behind which it goes on at the mark."""
    mark = len(sheet.rows) - 1
    lay_expression(sheet, statement[1])
    unless = sheet.leave()
    lay_block(sheet, statement[2])
    sheet.lay(("go", mark))
    sheet.lead(unless, "unless")


def lay_repeat(sheet, statement):
    """Lay a number and a block, while which the number lies on the pile."""
    first = sheet.rows[-1]
    lay_expression(sheet, statement[1])
    over = sheet.leave()
    mark = len(sheet.rows)
    sheet.lay(first)
    sheet.lead(over, "go")
    rounds = sheet.leave()
    sheet.repeats += 1
    lay_block(sheet, statement[2])
    sheet.repeats -= 1
    sheet.lay(("go", mark))
    sheet.lead(rounds, "round")


def lay_try(sheet, statement):
    """Lay a block, and one that what is thrown there leads to."""
    first = len(sheet.rows)
    lay_block(sheet, statement[1])
    over = sheet.leave()
    sheet.catches.append((first, over, len(sheet.rows), sheet.repeats))
    sheet.lay(("set", sheet.numbers[statement[2]]))
    lay_block(sheet, statement[3])
    sheet.lead(over, "go")


NESTS = {"if": lay_if, "while": lay_while, "repeat": lay_repeat, "try": lay_try}
