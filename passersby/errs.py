"""Err papers: at which beginnings a rule errs, and how that is shown [18]."""

from passersby.coming import backs_of
from passersby.coming import far_from
from passersby.coming import leads_from
from passersby.coming import way_in
from passersby.crowds import begun
from passersby.questions import holds
from passersby.settling import astray_in
from passersby.settling import lost_in


def err_at(rule, question, counts, limit=1000):
    """An err paper of a beginning, None where the rule answers there; or TooMany."""
    crowd = begun(rule, counts)
    leads = leads_from(rule, crowd, limit)
    truth = holds(question, counts)
    lost = lost_in(rule, leads, truth)
    if len(lost) == 0:
        return None
    numbers = [lead[0] for lead in way_in(leads, crowd, {lost[0]: True})]
    far = far_from(backs_of(leads), astray_in(rule, leads, truth))
    # What is lost stays lost, so no meeting leads out of these crowds.
    ranks = [(here, far[here]) for here in sorted(lost)]
    return (counts, tuple(numbers), tuple(ranks))


def err_of(rule, question, most, limit=1000):
    """The err paper of the first beginning of at most so many hands at which the rule errs, or None; or TooMany."""
    for hands in range(1, most + 1):
        for counts in beginnings(len(rule[1]), hands):
            paper = err_at(rule, question, counts, limit)
            if paper is not None:
                return paper
    return None


def beginnings(sorts, hands):
    """All beginnings of so many sorts and of just so many hands, sorted."""
    if sorts == 1:
        return [(hands,)]
    told = []
    for many in range(hands + 1):
        told.extend([(many,) + others for others in beginnings(sorts - 1, hands - many)])
    return told
