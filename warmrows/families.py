"""Families: kinds and their elders."""

from warmrows.errors import NoKind

LETTERS = "abcdefghijklmnopqrstuvwxyz"
MOST_LETTERS = 6
MOST_KINDS = 7


def is_whole(thing):
    """Whether a thing is a whole number, which truths are not."""
    return isinstance(thing, int) and not isinstance(thing, bool)


def is_tuple_of(thing, many):
    """Whether a thing is a tuple of so many parts."""
    return isinstance(thing, tuple) and len(thing) == many


def is_name(thing):
    """Whether a thing is a text of one to six small letters."""
    if not isinstance(thing, str) or not 1 <= len(thing) <= MOST_LETTERS:
        return False
    return all([sign in LETTERS for sign in thing])


def is_kind(thing, kinds):
    """Whether a thing is one of these kinds."""
    # A thing of another kind may call itself equal to a text, or not be fit for a key.
    return isinstance(thing, str) and thing in kinds


def are_kinds(thing, kinds):
    """Whether a thing is a tuple of unlike ones of these kinds."""
    if not isinstance(thing, tuple) or len(thing) > len(kinds):
        return False
    if not all([is_kind(part, kinds) for part in thing]):
        return False
    return len(set(thing)) == len(thing)


def check_kind(kind, kinds):
    """Refuse what is none of these kinds."""
    if not is_kind(kind, kinds):
        raise NoKind("no kind of these")


def kinds_of(rows):
    """The kinds of a family, or of a table: the first parts of its rows."""
    return tuple([row[0] for row in rows])


def is_family(thing):
    """Whether a thing of any kind is a family."""
    if not isinstance(thing, tuple) or not 1 <= len(thing) <= MOST_KINDS:
        return False
    if not all([is_tuple_of(pair, 2) and is_name(pair[0]) for pair in thing]):
        return False
    kinds = kinds_of(thing)
    if len(set(kinds)) < len(kinds):
        return False
    if not all([are_kinds(pair[1], kinds) for pair in thing]):
        return False
    return len(elders_first(thing)) == len(thing)


def elders_first(family):
    """The kinds, elders ahead of theirs; without those that come to a ring."""
    placed = {}
    waiting = list(family)
    ready = waiting
    while ready:
        ready = [kind for kind, elders in waiting if all([elder in placed for elder in elders])]
        for kind in ready:
            placed[kind] = True
        waiting = [pair for pair in waiting if pair[0] not in placed]
    return tuple(placed)


def reached_from(elders_of, kind):
    """All that a kind comes to by elders, as a dict's keys."""
    reached = {}
    waiting = list(elders_of[kind])
    while waiting:
        elder = waiting.pop()
        if elder not in reached:
            reached[elder] = True
            waiting.extend(elders_of[elder])
    return reached


def above(family, kind):
    """All kinds that a kind comes to by elders, as the family has them."""
    elders_of = dict(family)
    check_kind(kind, elders_of)
    reached = reached_from(elders_of, kind)
    return tuple([name for name in elders_of if name in reached])


def beneath(family, kind):
    """All kinds that come to a kind by elders, as the family has them."""
    elders_of = dict(family)
    check_kind(kind, elders_of)
    return tuple([name for name in elders_of if kind in reached_from(elders_of, name)])
