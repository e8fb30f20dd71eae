"""Books by the words of the document, for things made of tuples, texts, numbers and None: forms, ways and piles."""

from things import plain_is_name

PARTS = {
    "mark": "S", "push": "V", "name": "I", "set": "I", "pop": "", "get": "F", "put": "F", "drop": "F", "become": "K",
    "new": "K", "plus": "", "minus": "", "less": "", "alike": "", "tell": "", "throw": "", "give": "", "turn": "KFKF",
    "strip": "KF", "elders": "KE", "ask": "FN", "up": "FN", "go": "T", "unless": "T", "keep": "T", "round": "T",
}
TAKEN = {
    "set": 1, "pop": 1, "get": 1, "put": 2, "drop": 1, "become": 1, "plus": 2, "minus": 2, "less": 2, "alike": 2,
    "tell": 1, "throw": 1, "give": 1, "unless": 1, "keep": 1, "round": 1,
}
NUMBERS = ("plus", "minus", "less", "alike", "round")
ANYS = ("name", "get", "ask", "up")


def whole(thing, least, most):
    return isinstance(thing, int) and not isinstance(thing, bool) and least <= thing <= most


def plain_is_part(sign, thing, kinds, names, many):
    if sign == "K":
        return isinstance(thing, str) and thing in kinds
    if sign == "E":
        if not isinstance(thing, tuple) or any(not isinstance(part, str) for part in thing):
            return False
        return all(part in kinds and thing.count(part) == 1 for part in thing)
    if sign == "F":
        return plain_is_name(thing)
    if sign == "V":
        return thing is None or whole(thing, -999999999, 999999999)
    return whole(thing, 0, {"S": 99, "I": names - 1, "N": 3, "T": many - 1}[sign])


def plain_is_body(body, kinds, first):
    """Whether a thing is a body by form, in a book of these kinds, and the first one or another."""
    if not isinstance(body, tuple) or len(body) != 4:
        return False
    rows, catches, params, names = body
    if not whole(params, 0, 0 if first else 3) or not whole(names, params + 1, 21):
        return False
    if not isinstance(rows, tuple) or not isinstance(catches, tuple) or not rows:
        return False
    for row in rows:
        if not isinstance(row, tuple) or not row or not isinstance(row[0], str) or row[0] not in PARTS:
            return False
        signs = PARTS[row[0]]
        if len(signs) != len(row) - 1:
            return False
        if not all(plain_is_part(sign, part, kinds, names, len(rows)) for sign, part in zip(signs, row[1:])):
            return False
    if rows[0][0] != "mark" or rows[-1][0] not in ("go", "throw", "give"):
        return False
    for at, row in enumerate(rows):
        if row[0] in ("go", "unless", "keep", "round") and row[1] <= at and rows[row[1]][0] != "mark":
            return False
    for catch in catches:
        if not isinstance(catch, tuple) or len(catch) != 4:
            return False
        if not all(whole(part, 0, 10 ** 50) for part in catch):
            return False
        if not catch[0] <= catch[1] <= len(rows) or catch[2] >= len(rows):
            return False
        if catch[2] < catch[1] and rows[catch[2]][0] != "mark":
            return False
    return all(len(set(leads)) == len(leads) for leads in map(lambda at: plain_leads(body, at), range(len(rows))))


def plain_catch(body, at):
    return next((catch for catch in body[1] if catch[0] <= at < catch[1]), None)


def plain_leads(body, at):
    row = body[0][at]
    leads = [] if row[0] in ("go", "throw", "give") else [at + 1]
    leads += [row[1]] if row[0] in ("go", "unless", "keep", "round") else []
    return leads + [catch[2] for catch in [plain_catch(body, at)] if catch]


def plain_takes(row):
    return 1 + row[2] if row[0] in ("ask", "up") else TAKEN.get(row[0], 0)


def plain_is_short(body, at, pile):
    left = len(pile) - plain_takes(body[0][at])
    catch = plain_catch(body, at)
    return left < 0 or catch is not None and left < catch[3]


def plain_puts(row):
    if row[0] == "push":
        return ["number" if isinstance(row[1], int) else "any"]
    if row[0] in NUMBERS:
        return ["number"]
    return ["thing"] if row[0] == "new" else ["any"] if row[0] in ANYS else []


def plain_piles(body, at, pile):
    """A dict: the pile that a row brings to each row that it leads to."""
    row = body[0][at]
    left = list(pile)[:len(pile) - plain_takes(row)]
    piles = {}
    if row[0] not in ("go", "throw", "give"):
        piles[at + 1] = tuple(left + plain_puts(row))
    if row[0] in ("go", "unless", "round"):
        piles[row[1]] = tuple(left)
    if row[0] == "keep":
        piles[row[1]] = tuple(pile)
    catch = plain_catch(body, at)
    if catch:
        piles[catch[2]] = tuple(left[:catch[3]] + ["any"])
    return piles


def piles_along(body, way):
    """The piles ahead of each row of a way, up to the first short one; None where it is no way."""
    if way[:1] != (0,):
        return None
    piles = [()]
    for at, after in zip(way, way[1:]):
        if after not in plain_leads(body, at):
            return None
        if plain_is_short(body, at, piles[-1]):
            return piles
        piles.append(plain_piles(body, at, piles[-1])[after])
    return piles


def plain_look(body, most=2000):
    """A dict: for each row all piles that lie ahead of it by some way that no short row lies on; None if too many."""
    seen = {0: {()}}
    waiting = [(0, ())]
    while waiting:
        at, pile = waiting.pop()
        if plain_is_short(body, at, pile):
            continue
        for after, then in plain_piles(body, at, pile).items():
            if then not in seen.setdefault(after, set()):
                seen[after].add(then)
                waiting.append((after, then))
        if sum(map(len, seen.values())) > most:
            return None
    return seen
