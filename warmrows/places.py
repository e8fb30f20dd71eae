"""Places: what a row remembers of its asks, by how often it was asked and what it met."""

from warmrows.errors import NoWarming
from warmrows.families import is_tuple_of, is_whole

NEW_PLACE = ("cold", 0, (), (0, 0, 0, 0))
# The words in the order in which a tally counts them.
WORDS = ("cold", "hit", "miss", "wild")
# The least that WARM, FEW, COOL and LAY may be, and the most.
LEASTS = (0, 1, 1, 0)
MOST = 9


def check_warming(thing):
    """Refuse a thing of any kind that is no warming."""
    if not is_tuple_of(thing, 4) or not all([is_whole(part) for part in thing]):
        raise NoWarming("a warming is a tuple of four whole numbers")
    if not all([least <= part <= MOST for least, part in zip(LEASTS, thing)]):
        raise NoWarming("a number of the warming is out of its bounds")


def record_for(place, who, number):
    """The record of a place that an ask hits, or None; only a warm one has any."""
    for record in place[2]:
        if record[0] == who and record[1] == number:
            return record
    return None


def asked(warming, place, who, number, answer):
    """(PLACE, WORD, TOLD): what comes of asking a place."""
    check_warming(warming)
    if place[0] == "cold":
        return (cold_behind(warming, place, (who, number, answer)), "cold", answer)
    if place[0] == "wild":
        return (wild_behind(warming, place), "wild", answer)
    record = record_for(place, who, number)
    if record is not None:
        return (place[:3] + (tally_with(place, "hit"),), "hit", record[2])
    return (warm_behind(warming, place, (who, number, answer)), "miss", answer)


def tally_with(place, word):
    """The tally of a place with one more of a word."""
    return tuple([many + 1 if name == word else many for name, many in zip(WORDS, place[3])])


def cold_behind(warming, place, record):
    """The place behind an ask of a cold one."""
    count = place[1] + 1
    tally = tally_with(place, "cold")
    if count > warming[0] and record[2] is not None:
        return ("warm", 0, (record,), tally)
    return ("cold", count, (), tally)


def wild_behind(warming, place):
    """The place behind an ask of a wild one."""
    count = place[1] + 1
    tally = tally_with(place, "wild")
    if count >= warming[2]:
        return ("cold", 0, (), tally)
    return ("wild", count, (), tally)


def warm_behind(warming, place, record):
    """The place behind an ask of a warm one that no record of it answers."""
    tally = tally_with(place, "miss")
    records = place[2]
    if record[2] is None:
        return ("warm", 0, records, tally)
    if record[0] in [each[0] for each in records]:
        return ("warm", 0, tuple([record if each[0] == record[0] else each for each in records]), tally)
    if len(records) < warming[1]:
        return ("warm", 0, records + (record,), tally)
    return ("wild", 0, (), tally)
