"""Texts once more, without an eye to where they go wrong: whether one is a program's, and where it ceases to be."""

import re

from test_programs import PlainCheck, plain_is_program


class PlainReader:
    """It takes words off the front of a row and rows off the front of a text; what is amiss is an error."""

    def __init__(self, text):
        self.rows = [row.split(" ") for row in text.split("\n")]

    def front(self):
        return self.rows[0][0]

    def word(self):
        return self.rows[0].pop(0)

    def rest(self):
        words = tuple(self.rows[0])
        self.rows[0] = []
        return words

    def close(self):
        if self.rows.pop(0):
            raise LookupError

    def number(self):
        word = self.word()
        if not re.fullmatch("0|[1-9][0-9]{0,8}", word):
            raise LookupError
        return int(word)

    def program(self):
        kinds, deeds = [], []
        while self.front() == "kind":
            self.word()
            kind, many = self.word(), self.number()
            words = self.rest()
            if len(words) < many:
                raise LookupError
            kinds.append((kind, words[:many], words[many:]))
            self.close()
        while self.front() == "deed":
            self.word()
            deeds.append((self.word(), self.word(), self.rest(), self.block("end")))
            self.close()
        if self.word() != "run":
            raise LookupError
        run = self.block("end")
        self.close()
        if self.rows:
            raise LookupError
        return (tuple(kinds), tuple(deeds), run)

    def block(self, joint):
        """The block behind this row, and the word of the row behind it."""
        self.close()
        statements = []
        while self.front() not in ("end", "else", "catch"):
            statements.append(self.statement())
        if self.word() != joint:
            raise LookupError
        return tuple(statements)

    def statement(self):
        word = self.word()
        joints = {"if": ["else", "end"], "try": ["catch", "end"]}.get(word, ["end"])
        parts = [word]
        for form in PlainCheck.STATEMENTS[word]:
            parts.append(self.block(joints.pop(0)) if form == "b" else self.part(form))
        self.close()
        return tuple(parts)

    def part(self, form):
        if form == "e":
            return self.expression()
        if form == "a":
            return tuple([self.expression() for _ in range(self.number())])
        return self.rest() if form == "l" else self.word()

    def expression(self):
        if self.rows[0][0] == "none":
            self.word()
            return None
        if self.rows[0][0] in PlainCheck.EXPRESSIONS:
            word = self.word()
            return (word,) + tuple([self.part(form) for form in PlainCheck.EXPRESSIONS[word]])
        return self.number()


def plain_read(text):
    """The program, or None."""
    try:
        program = PlainReader(text).program()
    except LookupError:
        return None
    return program if plain_is_program(program) else None


def closing(rows):
    """The rows that close all that these leave open, the shortest way."""
    opened = []
    for row in rows:
        word = row.split(" ")[0]
        if word in ("if", "try", "while", "repeat", "deed", "run"):
            opened.append(word)
        elif word in ("else", "catch") and opened:
            opened[-1] = word
        elif word == "end" and opened:
            opened.pop()
    ends = []
    for word in opened[::-1]:
        ends += {"if": ["else"], "try": ["catch X"]}.get(word, []) + ["end"]
    return ends if "run" in rows else ends + ["run", "end"]


def begins(rows):
    """Whether these rows begin some program's text."""
    text = "\n".join(rows + closing(rows))
    # A name that the last body has already, or, where it has none, a new one.
    names = re.findall(r"\b(?:let|name|catch) ([a-z]+)", re.split(r"(?:^|\n)(?:deed|run)\b", "\n".join(rows))[-1])
    return any(plain_read(text.replace("catch X", "catch " + name)) for name in names[:1] + ["fresh"])


def plain_row(text):
    """None of a program's text, else the row that NoText tells."""
    if plain_read(text) is not None:
        return None
    rows = text.split("\n")
    # Rows that begin no program's text do so no more with others behind them.
    low, high = 0, len(rows)
    while low < high:
        middle = (low + high) // 2
        if begins(rows[:middle + 1]):
            low = middle + 1
        else:
            high = middle
    return low
