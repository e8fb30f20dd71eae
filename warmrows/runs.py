"""What all runs share, by trees and by rows: limits, what asks must keep to, and changes in their midst."""

from warmrows.changes import changed
from warmrows.errors import NoChange, NoLimit
from warmrows.families import is_whole
from warmrows.tables import found
from warmrows.values import Thrown

MOST_STEPS = 400
MOST_FRAMES = 12


def check_limit(limit):
    """Refuse a thing of any kind that is no limit of steps."""
    if not is_whole(limit) or not 0 <= limit <= MOST_STEPS:
        raise NoLimit("no limit of steps")


def check_ask(look, params, args, frames):
    """Throw where a look finds nothing, or its body can't be run with so many args beside so many frames."""
    if look is None:
        raise Thrown("nodeed")
    if params != args:
        raise Thrown("many")
    if frames >= MOST_FRAMES:
        raise Thrown("deep")


def table_behind(table, statement):
    """The table behind turn, strip or elders, which stand alike in programs and in rows."""
    try:
        return changed(table, change_by(table, statement))
    except NoChange as e:
        raise Thrown(e.word) from None


def change_by(table, statement):
    """The change that turn, strip or elders makes of a table."""
    word, kind = statement[:2]
    if word == "elders":
        return ("elders", kind, statement[2])
    if word == "strip":
        return ("own", kind, statement[2], None)
    look = found(table, statement[3], statement[4])
    if look is None:
        raise Thrown("nodeed")
    return ("own", kind, statement[2], look[1])
