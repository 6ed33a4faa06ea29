"""The refusals: one class for each, so that each can be taken by its own name."""


class TaleError(ValueError):
    """Any refusal of this program."""


class NoDeed(TaleError):
    """What is no deed of a kind, or no kind."""


class NoTale(TaleError):
    """What is no tale, or a text that no tale is written as."""


class NoStrictness(TaleError):
    """What is none of the three strictnesses."""


class NoThing(TaleError):
    """A name that none of the tale's things has."""


class NoOrder(TaleError):
    """Orders of the parts that cannot be joined, as they explain no parts."""


class NoHand(TaleError):
    """What is no hand with an open deed."""


class NotPlain(TaleError):
    """A tale that zones and weaker strictnesses do not speak of."""


class NoPlan(TaleError):
    """What is no plan, no kind or no way of a run."""


class NoDealings(TaleError):
    """Dealings and versions that do not fit together."""


class NoRow(TaleError):
    """What the desk does not understand."""
