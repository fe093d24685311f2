"""The refusals of the program, one class for each."""


class ShrinkError(ValueError):
    """Any refusal."""


class NoThing(ShrinkError):
    """What was handed in makes no row, forest or table."""


class NoPlace(ShrinkError):
    """What was handed in is no rising list of places of the thing."""


class NoFault(ShrinkError):
    """What was handed in is no text of a fault."""


class NoRule(ShrinkError):
    """What was handed in is no rule, or no list of unlike rules."""


class Spent(ShrinkError):
    """One more question would be asked than is allowed."""


class Healthy(ShrinkError):
    """What should fail does not."""


class NoText(ShrinkError):
    """What was handed in is no text of a thing."""


class NoRow(ShrinkError):
    """What was handed in is no row that the desk takes."""
