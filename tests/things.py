"""What several tests share: things of any kind, ways to spoil a thing, and families in plenty."""

import itertools
import random


class SameAsAll:
    """It calls itself equal to everything, and is no key."""

    __hash__ = None

    def __eq__(self, other):
        return True


def deep(many, wrap):
    thing = wrap([])
    for _ in range(many - 1):
        thing = wrap([thing])
    return thing


# Nothing of these is right at any place of what the document tells.
ALIENS = [
    True,
    False,
    -1,
    "",
    "A",
    "aB",
    "a b",
    "a1",
    "a_",
    "abcdefg",
    "a\n",
    "\u00e4",
    b"a",
    [],
    ["a"],
    [1],
    {},
    {"a": 1},
    set(),
    frozenset(),
    object(),
    SameAsAll(),
    SameAsAll,
    int,
    len,
    Ellipsis,
    NotImplemented,
    range(3),
    bytearray(b"a"),
    ValueError("a"),
    deep(30, tuple),
    deep(30, list),
    deep(15, lambda parts: {0: parts}),
]

# Each of these is right somewhere.
HOMELY = [None, 0, 1, 99, 100, 999999999, 10 ** 40, "a", "zz", "abcdef", (), ("a",), ("a", "a"), ((),), (1, 2)]

ANY = ALIENS + HOMELY


def places(thing):
    """All places within a thing of tuples: tuples of indexes."""
    yield ()
    if isinstance(thing, tuple):
        for at, part in enumerate(thing):
            for place in places(part):
                yield (at,) + place


def part_at(thing, place):
    for at in place:
        thing = thing[at]
    return thing


def with_part(thing, place, part):
    """The thing with another part at a place."""
    if not place:
        return part
    at = place[0]
    return thing[:at] + (with_part(thing[at], place[1:], part),) + thing[at + 1:]


def alien_at_each_place(thing):
    for place in places(thing):
        for alien in ALIENS:
            yield with_part(thing, place, alien)
        here = part_at(thing, place)
        if isinstance(here, tuple):
            yield with_part(thing, place, list(here))


def homely_at_each_place(thing):
    for place in places(thing):
        for part in HOMELY:
            yield with_part(thing, place, part)
        here = part_at(thing, place)
        if isinstance(here, tuple):
            yield with_part(thing, place, here + (None,))
            yield with_part(thing, place, here + here[-1:])
            yield with_part(thing, place, here[:-1])
            yield with_part(thing, place, here[1:])
            yield with_part(thing, place, here[::-1])


def ordered_choices(kinds):
    for many in range(len(kinds) + 1):
        yield from itertools.permutations(kinds, many)


def all_families(many):
    """All families of so many kinds whose elders stand ahead of them."""
    names = "abcdefg"[:many]
    choices = [list(ordered_choices(names[:at])) for at in range(many)]
    for elders in itertools.product(*choices):
        yield tuple(zip(names, elders))


def some_families(seed, many):
    """Families of up to seven kinds, in any order of kinds, the same ones each time."""
    source = random.Random(seed)
    for _ in range(many):
        names = list("abcdefg"[:source.randint(1, 7)])
        source.shuffle(names)
        family = []
        for at, name in enumerate(names):
            elders = source.sample(names[:at], source.randint(0, min(at, 3)))
            family.append((name, tuple(elders)))
        source.shuffle(family)
        yield tuple(family)


def plain_is_name(thing):
    """The point's words, for things made of tuples, texts, numbers and None; so are the next two."""
    return isinstance(thing, str) and len(thing) in range(1, 7) and all("a" <= letter <= "z" for letter in thing)


def plain_is_family(thing):
    if not isinstance(thing, tuple) or len(thing) not in range(1, 8):
        return False
    if any(not isinstance(pair, tuple) or len(pair) != 2 for pair in thing):
        return False
    kinds = [pair[0] for pair in thing]
    if any(not plain_is_name(kind) or kinds.count(kind) != 1 for kind in kinds):
        return False
    for kind, elders in thing:
        if not isinstance(elders, tuple) or any(elders.count(elder) != 1 for elder in elders):
            return False
        if any(elder not in kinds for elder in elders):
            return False
    return all(kind not in plain_above(thing, kind) for kind in kinds)


def plain_above(family, kind):
    elders = dict(family)
    come = set(elders[kind])
    for _ in family:
        for one in list(come):
            come |= set(elders[one])
    return come


CHAIN = (("a", ()), ("b", ("a",)), ("c", ("b",)))
DIAMOND = (("top", ()), ("left", ("top",)), ("right", ("top",)), ("low", ("left", "right")))
# x and y want a and b the one way and the other; z wants both.
TWO_QUARREL = (("a", ()), ("b", ()), ("x", ("a", "b")), ("y", ("b", "a")), ("z", ("x", "y")))
# Any two of p, q, r agree.
THREE_QUARREL = (
    ("a", ()), ("b", ()), ("c", ()),
    ("p", ("a", "b")), ("q", ("b", "c")), ("r", ("c", "a")),
    ("z", ("p", "q", "r")),
)
# The elders of c stand the other way than b's order has them.
ELDERS_QUARREL = (("a", ()), ("b", ("a",)), ("c", ("a", "b")), ("d", ("c",)), ("e", ("d", "a")))
SEVEN = (
    ("g", ("f", "e")), ("f", ("d",)), ("e", ("d", "c")), ("d", ("b", "a")),
    ("c", ("a",)), ("b", ()), ("a", ()),
)
