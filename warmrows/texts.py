"""Texts: programs written in rows of words, and read back."""

from warmrows.errors import NoText
from warmrows.families import are_kinds, is_kind, is_name, kinds_of
from warmrows.parts import EXPRESSIONS, MOST_ARGS, MOST_BLOCKS, MOST_NUMBER, MOST_STATEMENTS, MOST_WITHIN, MOST_X
from warmrows.parts import STATEMENTS
from warmrows.programs import MOST_DEEDS, are_kind_rows
from warmrows.tables import are_few_names

FIGURES = "0123456789"

# The words of the rows that stand behind a statement's blocks, one behind each.
JOINTS = {
    "if": ("else", "end"),
    "while": ("end",),
    "repeat": ("end",),
    "try": ("catch", "end"),
}


def show_program(program):
    """The text of a program."""
    kinds, deeds, run = program
    rows = [show_kind(row) for row in kinds]
    for kind, deed, params, block in deeds:
        rows.extend(show_body(["deed", kind, deed] + list(params), block))
    rows.extend(show_body(["run"], run))
    return "\n".join([" ".join(row) for row in rows])


def show_kind(row):
    """The words of a kind's row."""
    kind, elders, fields = row
    return ["kind", kind, str(len(elders))] + list(elders) + list(fields)


def show_body(first, block):
    """The rows of a body, of which the first is handed in."""
    return [first] + show_block(block) + [["end"]]


def show_block(block):
    """The rows of a block, each a list of words."""
    rows = []
    for statement in block:
        rows.extend(show_statement(statement))
    return rows


def show_statement(statement):
    """The rows of a statement, those of its blocks within."""
    word = statement[0]
    rows = [[word]]
    joints = list(JOINTS.get(word, ()))
    for form, part in zip(STATEMENTS[word], statement[1:]):
        if form == "block":
            rows.extend(show_block(part))
            rows.append([joints.pop(0)])
        else:
            rows[-1].extend(show_part(form, part))
    return rows


def show_part(form, part):
    """The words of a part that is no block."""
    if form == "e":
        return show_expression(part)
    if form == "args":
        return [str(len(part))] + show_parts(["e"] * len(part), part)
    if form == "elders":
        return list(part)
    return [part]


def show_parts(forms, parts):
    """The words of parts that have these forms."""
    words = []
    for form, part in zip(forms, parts):
        words.extend(show_part(form, part))
    return words


def show_expression(expression):
    """The words of an expression."""
    if expression is None:
        return ["none"]
    if not isinstance(expression, tuple):
        return [str(expression)]
    return [expression[0]] + show_parts(EXPRESSIONS[expression[0]], expression[1:])


class Reader:
    """The words of a text, how far they are read, and what the bounds ask of what was read."""

    def __init__(self, text):
        self.rows = [row.split(" ") for row in text.split("\n")]
        self.row = 0
        self.place = 0
        self.kinds = ()
        self.names = {}
        self.statements = 0

    def need(self, holds):
        """Refuse the row that is read, unless something holds."""
        if not holds:
            raise NoText(self.row)

    def ahead(self):
        """The next word of the row that is read, or None at its end."""
        self.need(self.row < len(self.rows))
        words = self.rows[self.row]
        return words[self.place] if self.place < len(words) else None

    def take(self):
        """The next word, which is there."""
        word = self.ahead()
        self.need(word is not None)
        self.place += 1
        return word

    def take_word(self, word):
        """Go on behind the next word, which is this one."""
        self.need(self.take() == word)

    def take_name(self):
        """The next word, which is a name."""
        name = self.take()
        self.need(is_name(name))
        return name

    def take_number(self):
        """The number that the next word shows."""
        word = self.take()
        self.need(is_number_word(word))
        return int(word)

    def take_rest(self):
        """All words that are left of the row."""
        words = self.rows[self.row][self.place:]
        self.place += len(words)
        return tuple(words)

    def end_row(self):
        """Go on to the next row, none of this one's words being left."""
        self.need(self.ahead() is None)
        self.row += 1
        self.place = 0


def is_number_word(word):
    """Whether a word is figures of a number within bounds, without noughts ahead."""
    if word == "" or len(word) > len(str(MOST_NUMBER)) or not all([sign in FIGURES for sign in word]):
        return False
    return word == "0" or word[0] != "0"


def read_program(text):
    """The program whose text this is."""
    if not isinstance(text, str):
        raise NoText(0)
    reader = Reader(text)
    kinds = read_kinds(reader)
    reader.kinds = kinds_of(kinds)
    deeds = read_deeds(reader)
    reader.take_word("run")
    run = read_body(reader, ())
    reader.need(reader.row == len(reader.rows))
    return (kinds, deeds, run)


def read_kinds(reader):
    """A program's kinds, at least one."""
    rows = ()
    while rows == () or reader.ahead() == "kind":
        rows += (read_kind(reader),)
        reader.need(are_kind_rows(rows))
        reader.end_row()
    return rows


def read_kind(reader):
    """What a kind's row tells."""
    reader.take_word("kind")
    kind = reader.take()
    many = reader.take_number()
    words = reader.take_rest()
    reader.need(many <= len(words))
    return (kind, words[:many], words[many:])


def read_deeds(reader):
    """A program's deeds, perhaps none."""
    deeds = ()
    while reader.ahead() == "deed":
        kind, deed, params = read_deed(reader)
        reader.need(len(deeds) < MOST_DEEDS and (kind, deed) not in [row[:2] for row in deeds])
        deeds += ((kind, deed, params, read_body(reader, params)),)
    return deeds


def read_deed(reader):
    """What the first row of a deed tells."""
    reader.take_word("deed")
    kind = read_part(reader, "kind", 0)
    deed = reader.take_name()
    params = reader.take_rest()
    reader.need(are_few_names(params))
    return (kind, deed, params)


def read_body(reader, params):
    """The block of a body, behind its first row."""
    reader.end_row()
    reader.names = {name: True for name in params}
    reader.statements = 0
    block = read_block(reader, MOST_BLOCKS - 1)
    reader.take_word("end")
    reader.end_row()
    return block


def read_block(reader, blocks):
    """A block with at most so many further ones within one another."""
    statements = []
    while reader.ahead() in STATEMENTS:
        statements.append(read_statement(reader, blocks))
    return tuple(statements)


def read_statement(reader, blocks):
    """A statement with at most so many blocks within one another."""
    word = reader.take()
    reader.statements += 1
    reader.need(reader.statements <= MOST_STATEMENTS)
    joints = list(JOINTS.get(word, ()))
    parts = [word]
    for form in STATEMENTS[word]:
        if form == "block":
            # Refused in the row that opens the block, as nothing behind it can mend that.
            reader.need(blocks > 0)
            reader.end_row()
            parts.append(read_block(reader, blocks - 1))
            reader.take_word(joints.pop(0))
        else:
            parts.append(read_part(reader, form, MOST_WITHIN))
    reader.end_row()
    return tuple(parts)


def read_part(reader, form, within):
    """A part that is no block, with at most so many expressions within one another."""
    if form == "e":
        return read_expression(reader, within)
    if form == "args":
        return read_args(reader, within)
    if form == "x":
        return read_x(reader)
    if form == "kind":
        kind = reader.take()
        reader.need(is_kind(kind, reader.kinds))
        return kind
    if form == "elders":
        elders = reader.take_rest()
        reader.need(are_kinds(elders, reader.kinds))
        return elders
    return reader.take_name()


def read_args(reader, within):
    """How many expressions, and then they."""
    many = reader.take_number()
    reader.need(many <= MOST_ARGS)
    return tuple([read_expression(reader, within) for place in range(many)])


def read_x(reader):
    """A name that the body has, perhaps a new one."""
    name = reader.take_name()
    reader.names[name] = True
    reader.need(len(reader.names) <= MOST_X)
    return name


def read_expression(reader, within):
    """An expression, at most so many within one another, this one counted."""
    reader.need(within > 0)
    word = reader.ahead()
    if word == "none":
        reader.take()
        return None
    if word not in EXPRESSIONS:
        return reader.take_number()
    reader.take()
    return (word,) + tuple([read_part(reader, form, within - 1) for form in EXPRESSIONS[word]])
