"""Ways: which rows of a body a row leads to."""

# Rows that go on at the row that they name, and rows behind which the next one isn't run.
LEAPS = ("go", "unless", "keep", "round")
ENDS = ("go", "throw", "give")


def first_catch(body, row):
    """The first catch that a row has, or None."""
    for catch in body[1]:
        if catch[0] <= row < catch[1]:
            return catch
    return None


def leads_of(body, row):
    """The rows that a row leads to: the next one, the one that it names, and that of its first catch."""
    word = body[0][row][0]
    leads = []
    if word not in ENDS:
        leads.append(row + 1)
    if word in LEAPS:
        leads.append(body[0][row][1])
    catch = first_catch(body, row)
    if catch is not None:
        leads.append(catch[2])
    return tuple(leads)


def is_way(body, way):
    """Whether a tuple of rows' numbers is a way."""
    if way[:1] != (0,):
        return False
    return all([after in leads_of(body, row) for row, after in zip(way, way[1:])])


def ways_in(body):
    """For each row a shortest way to it, or None where none leads there."""
    ways = [None] * len(body[0])
    ways[0] = (0,)
    waiting = [0]
    while waiting:
        row = waiting.pop(0)
        for after in leads_of(body, row):
            if ways[after] is None:
                ways[after] = ways[row] + (after,)
                waiting.append(after)
    return tuple(ways)
