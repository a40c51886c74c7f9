"""Crowds that are settled, and whether a rule answers a question at a beginning [4, 15]."""

from passersby.coming import backs_of
from passersby.coming import come
from passersby.coming import far_from
from passersby.coming import leads_from
from passersby.crowds import begun
from passersby.crowds import said
from passersby.questions import holds


def settled(rule, crowd, limit=1000):
    """True or False where a crowd is settled to it, None where it is to neither; or TooMany."""
    words = [said(rule, here) for here in come(rule, crowd, limit)]
    if words.count("yes") == len(words):
        return True
    return False if words.count("no") == len(words) else None


def answers(rule, question, counts, limit=1000):
    """Whether a rule answers a question at a beginning; or TooMany."""
    leads = leads_from(rule, begun(rule, counts), limit)
    return len(lost_in(rule, leads, holds(question, counts))) == 0


def astray_in(rule, leads, truth):
    """The crowds in which some hand does not say the truth, nearer ones first."""
    word = "yes" if truth else "no"
    return [crowd for crowd in leads if said(rule, crowd) != word]


def lost_in(rule, leads, truth):
    """The crowds from which none comes that is settled to the truth, nearer ones first."""
    backs = backs_of(leads)
    unsettled = far_from(backs, astray_in(rule, leads, truth))
    hopeful = far_from(backs, [crowd for crowd in leads if crowd not in unsettled])
    return [crowd for crowd in leads if crowd not in hopeful]
