"""The err checker: whether a thing shows that a rule errs at a beginning [16, 17]."""

from passersby.crowds import begun
from passersby.crowds import is_crowd
from passersby.crowds import leads_at
from passersby.crowds import pairs_of
from passersby.crowds import passed
from passersby.crowds import said
from passersby.errors import NoPaper
from passersby.kinds import is_tuple_of
from passersby.kinds import is_whole
from passersby.questions import holds
from passersby.rules import is_counts

MOST_IN_PAPER = 60


def lets_err(rule, question, thing):
    """True of an err paper of a rule and a question, else NoPaper."""
    if not is_shaped(rule, thing):
        raise NoPaper("shape", 0)
    crowds = passed(rule, begun(rule, thing[0]), thing[1])
    if len(crowds) <= len(thing[1]):
        raise NoPaper("way", len(crowds) - 1)
    ranks = ranks_of(rule, sum(thing[0]), thing[2])
    if crowds[-1] not in ranks:
        raise NoPaper("from", 0)
    look_at_ranks(rule, holds(question, thing[0]), ranks)
    return True


def is_shaped(rule, thing):
    """Whether it is a tuple of a beginning, of not too many hands, and two tuples."""
    if not is_tuple_of(thing, 3) or not is_counts(len(rule[1]), thing[0]):
        return False
    return sum(thing[0]) <= MOST_IN_PAPER and isinstance(thing[1], tuple) and isinstance(thing[2], tuple)


def ranks_of(rule, hands, things):
    """The rank of each crowd, in order, of tuples (crowd, rank) whose crowds rise; else NoPaper."""
    ranks = {}
    # Below every crowd, so that any may come first.
    ahead = ()
    for place, thing in enumerate(things):
        if not is_ranked(rule, hands, thing) or thing[0] <= ahead:
            raise NoPaper("rank", place)
        ahead = thing[0]
        ranks[ahead] = thing[1]
    return ranks


def is_ranked(rule, hands, thing):
    """Whether it is a tuple of a crowd of so many hands and a rank."""
    if not is_tuple_of(thing, 2) or not is_crowd(rule, thing[0]) or sum(thing[0]) != hands:
        return False
    return is_whole(thing[1]) and thing[1] >= 0


def look_at_ranks(rule, truth, ranks):
    """NoPaper of the first crowd that a meeting leads out from, or whose rank is not as told."""
    pairs = pairs_of(rule)
    word = "yes" if truth else "no"
    for place, crowd in enumerate(ranks):
        leads = leads_at(rule, pairs, crowd)
        if not all([lead[1] in ranks for lead in leads]):
            raise NoPaper("closed", place)
        rank = ranks[crowd]
        if rank == 0 and said(rule, crowd) == word:
            raise NoPaper("falls", place)
        if rank > 0 and not any([ranks[lead[1]] < rank for lead in leads]):
            raise NoPaper("falls", place)
