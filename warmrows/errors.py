"""The refusals: each stands straight under the base, so that each is taken by its own name."""


class RowError(ValueError):
    """Any refusal."""


class NoKind(RowError):
    """What is asked of is no kind of the family or table."""


class NoOrder(RowError):
    """An elder of the kind has no order, so the kind has no rows."""


class NoChange(RowError):
    """The table can't be changed so; word tells why."""

    def __init__(self, word):
        self.word = word


class NoShape(RowError):
    """What is asked of is no shape's number."""


class NoField(RowError):
    """The shape has the field that is put, or hasn't the one that is dropped."""


class NoText(RowError):
    """The text is no program's; row is the first one that goes wrong."""

    def __init__(self, row):
        self.row = row


class NoLimit(RowError):
    """What is handed in is no limit of steps."""


class NoWarming(RowError):
    """What is handed in is no warming."""
