"""Looker: whether a thing is a book, and what the pile holds ahead of each row of a body."""

from warmrows.families import is_tuple_of, kinds_of
from warmrows.forms import is_body_form
from warmrows.piles import merged, needs_of, piles_behind
from warmrows.tables import is_table


def is_form(thing):
    """Whether a thing of any kind is a book by form."""
    if not is_tuple_of(thing, 2) or not is_table(thing[0]):
        return False
    table, bodies = thing
    if not isinstance(bodies, tuple) or len(bodies) == 0 or not has_bodies(table, len(bodies)):
        return False
    kinds = kinds_of(table)
    if not all([is_body_form(body, kinds) for body in bodies]):
        return False
    # What is run at first is handed nothing.
    return bodies[0][2] == 0


def has_bodies(table, many):
    """Whether all bodies that a table names are there, where there are so many."""
    return all([pair[1] < many for row in table for pair in row[4]])


def is_book(thing):
    """Whether a thing of any kind is a good book."""
    if not is_form(thing):
        return False
    return all([look(thing, number)[0] == "table" for number in range(len(thing[1]))])


def look(book, number):
    """What is told of a body: a short row, unlike heights, or the table of its piles."""
    body = book[1][number]
    short = short_way(body)
    if short is not None:
        return ("short", short)
    unlike = unlike_ways(body)
    if unlike is not None:
        return ("unlike",) + unlike
    return ("table", piles_of(body))


def short_way(body):
    """A way to the first row of a body that is short at the end of one, or None."""
    # A row is short by some way just where it is by one that leaves least there, so of each row only lesser
    # heights than those so far are followed, and there can't be many of them.
    least = {0: ()}
    ahead = {(0, 0): None}
    waiting = [0]
    while waiting:
        row = waiting.pop(0)
        pile = least[row]
        if len(pile) < needs_of(body, row):
            continue
        for after, then in piles_behind(body, row, pile):
            if after not in least or len(then) < len(least[after]):
                least[after] = then
                ahead[(after, len(then))] = (row, len(pile))
                waiting.append(after)
    for row in sorted(least):
        if len(least[row]) < needs_of(body, row):
            return way_to(ahead, (row, len(least[row])))
    return None


def way_to(ahead, stop):
    """The way to a stop, where it is known which one stands ahead of each, and None ahead of the first."""
    way = []
    while stop is not None:
        way.append(stop[0])
        stop = ahead[stop]
    return tuple(way[::-1])


def unlike_ways(body):
    """Two ways that end at one row of a body with unlike heights, where no row is short; or None."""
    piles = {0: ()}
    ahead = {(0, 0): None}
    waiting = [0]
    while waiting:
        row = waiting.pop(0)
        stop = (row, len(piles[row]))
        for after, pile in piles_behind(body, row, piles[row]):
            if after not in piles:
                piles[after] = pile
                ahead[(after, len(pile))] = stop
                waiting.append(after)
            elif len(pile) != len(piles[after]):
                return (way_to(ahead, (after, len(piles[after]))), way_to(ahead, stop) + (after,))
    return None


def piles_of(body):
    """For each row of a body the pile ahead of it by all ways, or None; where heights are alike."""
    piles = [None] * len(body[0])
    piles[0] = ()
    waiting = [0]
    while waiting:
        row = waiting.pop(0)
        for after, pile in piles_behind(body, row, piles[row]):
            then = pile if piles[after] is None else merged(piles[after], pile)
            if then != piles[after]:
                piles[after] = then
                waiting.append(after)
    return tuple(piles)
