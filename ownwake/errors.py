"""The errors of this package, each with the fields that tell what is wrong."""


class WakeError(ValueError):
    """What all errors of this package have in common."""


class InvalidSchema(WakeError):
    """The value at this index is no table, or has the name of an earlier one."""

    def __init__(self, part):
        self.part = part


class InvalidDatabase(WakeError):
    """The part of the table of this name is not right; without a name, the data as a whole."""

    def __init__(self, part):
        self.part = part


class InvalidStatement(WakeError):
    """The part of this name is not right."""

    def __init__(self, part):
        self.part = part


class InvalidPlan(WakeError):
    """The part of this name is not right."""

    def __init__(self, part):
        self.part = part


class InvalidText(WakeError):
    """The line with this index does not have the form."""

    def __init__(self, line):
        self.line = line


class InvalidLine(WakeError):
    """This line is none that a console answers."""

    def __init__(self, line):
        self.line = line


class Duplicate(WakeError):
    """Two rows have this value in this column, which is a key."""

    def __init__(self, column, value):
        self.column = column
        self.value = value


class NoTable(WakeError):
    """There is no table of this name."""

    def __init__(self, name):
        self.name = name


class NoRow(WakeError):
    """The table of this name has no row with this number."""

    def __init__(self, name, number):
        self.name = name
        self.number = number


class Idle(WakeError):
    """This hand can make no event."""

    def __init__(self, hand):
        self.hand = hand


class Unsound(WakeError):
    """The plan with this data can be disturbed."""

    def __init__(self, plan_data):
        self.plan_data = plan_data


class NoChain(WakeError):
    """The plan with this data is not of the kind that is asked for."""

    def __init__(self, plan_data):
        self.plan_data = plan_data


class Empty(WakeError):
    """There is nothing to undo."""
