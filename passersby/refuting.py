"""Refutations: that some facts hold together at no crowd and beginning [25, 26]."""

from passersby.facts import denials_of
from passersby.facts import is_fact
from passersby.facts import not_of
from passersby.forms import is_bounded
from passersby.forms import is_form
from passersby.forms import nought
from passersby.forms import plus
from passersby.forms import summed
from passersby.kinds import is_tuple_of
from passersby.kinds import is_within

MOST_WITHIN = 30
MOST_RESTS = 99
MOST_CASES = 9


def refutes(rooms, sorts, facts, thing):
    """Whether it is a refutation of the facts."""
    return refutes_at(1, rooms, sorts, facts, thing)


def shows(rooms, sorts, facts, fact, thing):
    """Whether it is a tuple of refutations that show a fact from the facts."""
    return shows_at(1, rooms, sorts, facts, fact, thing)


def shows_at(depth, rooms, sorts, facts, fact, thing):
    """Whether it shows a fact from the facts; its refutations stand at so many within one another."""
    denials = denials_of(fact)
    if not is_tuple_of(thing, len(denials)):
        return False
    for denial, part in zip(denials, thing):
        if not refutes_at(depth, rooms, sorts, facts + (denial,), part):
            return False
    return True


def refutes_at(depth, rooms, sorts, facts, thing):
    """Whether it refutes the facts, where it is the so manieth of those within one another."""
    if depth > MOST_WITHIN or not isinstance(thing, tuple) or len(thing) == 0:
        return False
    if thing[0] == "sum":
        return len(thing) == 2 and refutes_by_sum(rooms, sorts, facts, thing[1])
    if thing[0] == "rest":
        return len(thing) == 3 and refutes_by_rest(rooms, sorts, facts, thing[1], thing[2])
    branches = branches_at(depth, rooms, sorts, facts, thing)
    if branches is None:
        return False
    for fact, part in branches:
        if not refutes_at(depth + 1, rooms, sorts, facts + (fact,), part):
            return False
    return True


def refutes_by_sum(rooms, sorts, facts, times):
    """Whether the facts, so many times, would come to a number below 0 that is at least 0."""
    if not are_times(facts, times):
        return False
    for i, t in times:
        if facts[i][0] == "rest" or facts[i][0] == "least" and t < 1:
            return False
    form = come_together(rooms, sorts, facts, times)
    return form[0] < 0 and all([number <= 0 for number in form[1] + form[2]])


def refutes_by_rest(rooms, sorts, facts, m, times):
    """Whether m would divide what the facts, so many times, come to, and does not."""
    if not is_within(m, 2, MOST_RESTS) or not are_times(facts, times):
        return False
    for i, t in times:
        fact = facts[i]
        if fact[0] == "least" or fact[0] == "rest" and fact[2] % m != 0:
            return False
    form = come_together(rooms, sorts, facts, times)
    return form[0] % m != 0 and all([number % m == 0 for number in form[1] + form[2]])


def are_times(facts, thing):
    """Whether it is a tuple of tuples (i, t), i rising numbers of facts, t not 0."""
    if not isinstance(thing, tuple):
        return False
    ahead = -1
    for part in thing:
        if not is_tuple_of(part, 2) or not is_within(part[0], ahead + 1, len(facts) - 1):
            return False
        if not is_bounded(part[1]) or part[1] == 0:
            return False
        ahead = part[0]
    return True


def come_together(rooms, sorts, facts, times):
    """The form that the forms of facts, each so many times, come to."""
    form = nought(rooms, sorts)
    for i, t in times:
        form = summed(form, facts[i][1], t)
    return form


def branches_at(depth, rooms, sorts, facts, thing):
    """What stands in a split, cases or know of that depth, each part with the fact behind those that it goes on from.

    None where it is none of these, or what it knows is not shown. Some one of the facts always holds where those that
    are known do, so it is enough to go on from each of them. Trees have the same kinds as refutations.
    """
    if len(thing) != 4:
        return None
    if thing[0] == "split":
        return split_branches(rooms, sorts, thing)
    if thing[0] == "cases":
        return cases_branches(rooms, sorts, thing)
    if thing[0] == "know":
        return know_branches(depth, rooms, sorts, facts, thing)
    return None


def split_branches(rooms, sorts, thing):
    """Where a form is 0 or more, and where it is below 0."""
    if not is_form(rooms, sorts, thing[1]):
        return None
    least = ("least", thing[1])
    return [(least, thing[2]), (not_of(least), thing[3])]


def cases_branches(rooms, sorts, thing):
    """For each rest that a form may leave."""
    form = thing[1]
    m = thing[2]
    if not is_form(rooms, sorts, form) or not is_within(m, 2, MOST_CASES) or not is_tuple_of(thing[3], m):
        return None
    return [(("rest", plus(form, -k), m), part) for k, part in enumerate(thing[3])]


def know_branches(depth, rooms, sorts, facts, thing):
    """With a fact that is shown from the others."""
    fact = thing[1]
    if not is_fact(rooms, sorts, fact) or not shows_at(depth + 1, rooms, sorts, facts, fact, thing[2]):
        return None
    return [(fact, thing[3])]
