"""All rules of so few rooms, and papers that show that none of them answers [22]."""

from passersby.errchecker import lets_err
from passersby.errors import NoPaper
from passersby.errs import err_of
from passersby.kinds import is_tuple_of


def rules_of(sorts, rooms):
    """All rules of just so many rooms in whose meetings c is not above d, sorted."""
    rules = []
    for starts in rows_over(list(range(rooms)), sorts):
        for meets in meets_over(rooms):
            for says in rows_over([False, True], rooms):
                rules.append((rooms, starts, meets, says))
    return sorted(rules)


def rows_over(things, many):
    """All tuples of so many of the things."""
    rows = [()]
    for place in range(many):
        longer = []
        for row in rows:
            longer.extend([row + (thing,) for thing in things])
        rows = longer
    return rows


def meets_over(rooms):
    """All tuples of meetings of so many rooms, c not above d: of each two rooms one meeting or none."""
    told = [()]
    pairs = [pair for pair in rows_over(list(range(rooms)), 2) if pair[0] <= pair[1]]
    for pair in pairs:
        longer = list(told)
        for meets in told:
            longer.extend([meets + (pair + turned,) for turned in pairs if turned != pair])
        told = longer
    return told


def none_of(question, sorts, rooms, most):
    """("rule", the first rule that errs at no beginning of at most so many hands), else ("none", err papers)."""
    papers = []
    for rule in rules_of(sorts, rooms):
        paper = err_of(rule, question, most)
        if paper is None:
            return ("rule", rule)
        papers.append(paper)
    return ("none", tuple(papers))


def lets_none(question, sorts, rooms, thing):
    """Whether it is a tuple with an err paper for each rule of so few rooms, in order."""
    rules = rules_of(sorts, rooms)
    if not is_tuple_of(thing, len(rules)):
        return False
    for rule, paper in zip(rules, thing):
        try:
            lets_err(rule, question, paper)
        except NoPaper:
            return False
    return True
