"""Facts: what is said of the value of a form [24, 25]."""

from passersby.forms import against
from passersby.forms import is_form
from passersby.forms import plus
from passersby.forms import value_at
from passersby.kinds import is_within

MOST_DIVIDES = 99


def is_fact(rooms, sorts, thing):
    """Whether it is a fact of so many rooms and sorts."""
    if not isinstance(thing, tuple) or len(thing) < 2 or not is_form(rooms, sorts, thing[1]):
        return False
    if thing[0] in ("least", "same"):
        return len(thing) == 2
    return thing[0] == "rest" and len(thing) == 3 and is_within(thing[2], 2, MOST_DIVIDES)


def fact_holds(fact, crowd, counts):
    """Whether a fact holds at a crowd and a beginning."""
    value = value_at(fact[1], crowd, counts)
    if fact[0] == "least":
        return value >= 0
    if fact[0] == "same":
        return value == 0
    return value % fact[2] == 0


def not_of(fact):
    """NOT of a least fact, again a least fact."""
    return ("least", plus(against(fact[1]), -1))


def denials_of(fact):
    """The facts of which some one holds just where this fact does not, in the order in which they are refuted."""
    form = fact[1]
    if fact[0] == "least":
        return [not_of(fact)]
    if fact[0] == "same":
        return [("least", plus(form, -1)), not_of(fact)]
    return [("rest", plus(form, -k), fact[2]) for k in range(1, fact[2])]
