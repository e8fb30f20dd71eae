"""Piles: how many a row takes and finds, and what words the pile holds behind it."""

from warmrows.ways import ENDS, LEAPS, first_catch

# How many a row of each word takes; ask and up take as many values more as they tell.
TAKES = {
    "mark": 0,
    "push": 0,
    "name": 0,
    "set": 1,
    "pop": 1,
    "get": 1,
    "put": 2,
    "drop": 1,
    "become": 1,
    "new": 0,
    "plus": 2,
    "minus": 2,
    "less": 2,
    "alike": 2,
    "tell": 1,
    "throw": 1,
    "give": 1,
    "turn": 0,
    "strip": 0,
    "elders": 0,
    "ask": 1,
    "up": 1,
    "go": 0,
    "unless": 1,
    "keep": 1,
    "round": 1,
}
# What a row of each word puts for the next one; keep takes for it what it leaves for the row that it names.
PUTS = {
    "name": "any",
    "get": "any",
    "new": "thing",
    "plus": "number",
    "minus": "number",
    "less": "number",
    "alike": "number",
    "ask": "any",
    "up": "any",
    "round": "number",
}


def takes_of(row):
    """How many a row takes."""
    return TAKES[row[0]] + (row[2] if row[0] in ("ask", "up") else 0)


def needs_of(body, row):
    """How many a row must find, not to be short."""
    catch = first_catch(body, row)
    return takes_of(body[0][row]) + (0 if catch is None else catch[3])


def put_by(row):
    """The words that a row puts, ahead of the next one."""
    if row[0] == "push":
        return ("any",) if row[1] is None else ("number",)
    return (PUTS[row[0]],) if row[0] in PUTS else ()


def piles_behind(body, row, pile):
    """All (ROW, PILE) that a row leads to, where this pile lies ahead of it and the row isn't short."""
    parts = body[0][row]
    left = pile[:len(pile) - takes_of(parts)]
    leads = []
    if parts[0] not in ENDS:
        leads.append((row + 1, left + put_by(parts)))
    if parts[0] in LEAPS:
        leads.append((parts[1], pile if parts[0] == "keep" else left))
    catch = first_catch(body, row)
    if catch is not None:
        leads.append((catch[2], left[:catch[3]] + ("any",)))
    return leads


def merged(one, other):
    """What a pile holds by two ways, of one height."""
    return tuple([word if word == its else "any" for word, its in zip(one, other)])
