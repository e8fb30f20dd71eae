"""Values: numbers, None, things and words; which are yes, and what is told of two of them."""

from warmrows.families import is_tuple_of, is_whole

MOST_VALUE = 999999999
FAULTS = ("kind", "great", "nothing", "nofield", "nodeed", "many", "deep", "ring", "quarrel")


class Thrown(Exception):
    """A value is thrown: a fault's word, or what a program throws."""

    def __init__(self, value):
        self.value = value


def is_value(thing):
    """Whether a thing of any kind is a value."""
    return thing is None or is_number(thing) or is_fault(thing) or is_thing(thing)


def is_number(thing):
    """Whether a thing is a whole number of at most nine figures."""
    return is_whole(thing) and -MOST_VALUE <= thing <= MOST_VALUE


def is_fault(thing):
    """Whether a thing is a word that a fault throws."""
    return isinstance(thing, str) and thing in FAULTS


def is_thing(value):
    """Whether a value is a thing: ("thing", NUMBER)."""
    if not is_tuple_of(value, 2) or not isinstance(value[0], str) or not is_whole(value[1]):
        return False
    return value[0] == "thing" and value[1] >= 0


def is_yes(value):
    """Whether a value is yes; None and 0 are no."""
    return value is not None and value != 0


def plus(first, second):
    """The sum of two numbers."""
    check_number(first)
    check_number(second)
    return within_figures(first + second)


def minus(first, second):
    """The first of two numbers without the second."""
    check_number(first)
    check_number(second)
    return within_figures(first - second)


def less(first, second):
    """1 where the first of two numbers is the lesser one, else 0."""
    check_number(first)
    check_number(second)
    return int(first < second)


def alike(first, second):
    """1 where two values are one and the same, else 0."""
    return int(first == second)


def check_number(value):
    """Throw where a value is no number."""
    # One that a program beyond its bounds brings along may have more than nine figures.
    if not is_whole(value):
        raise Thrown("kind")


def within_figures(number):
    """The number, where it has at most nine figures."""
    if not is_number(number):
        raise Thrown("great")
    return number


PAIRS = {"plus": plus, "minus": minus, "less": less, "alike": alike}


def told_of(word, first, second):
    """What plus, minus, less or alike tells of two values."""
    deed = PAIRS[word]
    return deed(first, second)
