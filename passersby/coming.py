"""The crowds that come from a crowd, and the ways to them [14]."""

from passersby.crowds import leads_at
from passersby.crowds import pairs_of
from passersby.errors import TooMany


def come(rule, crowd, limit=1000):
    """All crowds that come from a crowd, sorted, or TooMany."""
    return sorted(list(leads_from(rule, crowd, limit)))


def way_to(rule, crowd, goal, limit=1000):
    """A shortest row of meetings' numbers to a goal, None where it does not come, or TooMany."""
    leads = leads_from(rule, crowd, limit)
    if goal not in leads:
        return None
    return [lead[0] for lead in way_in(leads, crowd, {goal: True})]


def leads_from(rule, crowd, limit):
    """Each crowd that comes, nearer ones first, with its leads, tuples (number, crowd); or TooMany."""
    pairs = pairs_of(rule)
    leads = {}
    known = {crowd: True}
    found = [crowd]
    while len(leads) < len(found):
        if len(found) > limit:
            raise TooMany()
        here = found[len(leads)]
        leads[here] = leads_at(rule, pairs, here)
        for lead in leads[here]:
            if lead[1] not in known:
                known[lead[1]] = True
                found.append(lead[1])
    return leads


def way_in(leads, crowd, goals):
    """A shortest row of leads from a crowd to any of the goals, of which one comes from it."""
    ahead = {crowd: None}
    found = [crowd]
    place = 0
    while found[place] not in goals:
        here = found[place]
        for lead in leads[here]:
            if lead[1] not in ahead:
                ahead[lead[1]] = (here, lead)
                found.append(lead[1])
        place += 1
    return row_to(ahead, found[place])


def row_to(ahead, goal):
    """The leads to a goal, by the crowd ahead of each crowd, and the lead from there."""
    row = []
    step = ahead[goal]
    while step is not None:
        row.append(step[1])
        step = ahead[step[0]]
    return list(reversed(row))


def backs_of(leads):
    """For each crowd those that a meeting leads to it from."""
    backs = {}
    for crowd in leads:
        backs[crowd] = []
    for crowd, led in leads.items():
        for lead in led:
            backs[lead[1]].append(crowd)
    return backs


def far_from(backs, goals):
    """Each crowd from which some of the goals comes, with how many meetings lead there at least."""
    far = {}
    for goal in goals:
        far[goal] = 0
    found = list(goals)
    place = 0
    while place < len(found):
        here = found[place]
        for crowd in backs[here]:
            if crowd not in far:
                far[crowd] = far[here] + 1
                found.append(crowd)
        place += 1
    return far
