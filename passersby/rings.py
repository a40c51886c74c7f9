"""Ends of a crowd, fair rings, and what these say [19, 20]."""

from passersby.coming import backs_of
from passersby.coming import leads_from
from passersby.coming import way_in
from passersby.crowds import leads_at
from passersby.crowds import pairs_of
from passersby.crowds import passed
from passersby.crowds import said
from passersby.errors import NoPaper
from passersby.kinds import is_tuple_of


def ends_of(rule, crowd, limit=1000):
    """The ends of a crowd, sorted lists of crowds, sorted; or TooMany."""
    leads = leads_from(rule, crowd, limit)
    placed = {}
    ends = []
    # Of all crowds not yet placed the one told last comes from each that it leads to, but for those placed already.
    for here in reversed(walked_through(backs_of(leads))):
        if here not in placed:
            part = part_from(leads, here, placed)
            placed.update(part)
            if leads_within(leads, part):
                ends.append(sorted(list(part)))
    return sorted(ends)


def walked_through(backs):
    """All crowds, by a walk against the meetings, each behind those that the walk found from it."""
    order = []
    seen = {}
    for crowd in backs:
        waiting = [(crowd, False)]
        while len(waiting) > 0:
            item = waiting.pop()
            if item[1]:
                order.append(item[0])
            elif item[0] not in seen:
                seen[item[0]] = True
                waiting.append((item[0], True))
                waiting.extend([(back, False) for back in backs[item[0]]])
    return order


def part_from(leads, crowd, placed):
    """The crowds that come from a crowd by none that is placed already."""
    part = {crowd: True}
    waiting = [crowd]
    while len(waiting) > 0:
        here = waiting.pop()
        for lead in leads[here]:
            if lead[1] not in part and lead[1] not in placed:
                part[lead[1]] = True
                waiting.append(lead[1])
    return part


def leads_within(leads, part):
    """Whether no meeting leads out of a part."""
    for crowd in part:
        if not all([lead[1] in part for lead in leads[crowd]]):
            return False
    return True


def ring_to(rule, crowd, end, limit=1000):
    """A fair ring from a crowd whose crowds passed are those of an end of it; or TooMany."""
    leads = leads_from(rule, crowd, limit)
    way = way_in(leads, crowd, {end[0]: True})
    ring = ring_over(leads, end)
    return (tuple([lead[0] for lead in way]), tuple([lead[0] for lead in ring]))


def ring_over(leads, end):
    """A row of leads from the first crowd of an end through all of them and back."""
    here = end[0]
    left = {}
    for crowd in end[1:]:
        left[crowd] = True
    row = []
    while len(left) > 0:
        row.extend(way_in(leads, here, left))
        here = row[-1][1]
        left.pop(here)
    return row + way_in(leads, here, {end[0]: True})


def ring_says(rule, crowd, thing):
    """What a fair ring from a crowd says, "yes", "no" or "both"; else NoPaper."""
    if not is_tuple_of(thing, 2) or not isinstance(thing[0], tuple) or not isinstance(thing[1], tuple):
        raise NoPaper("shape", 0)
    way = passed(rule, crowd, thing[0])
    if len(way) <= len(thing[0]):
        raise NoPaper("way", len(way) - 1)
    ring = passed(rule, way[-1], thing[1])
    if len(ring) <= len(thing[1]):
        raise NoPaper("ring", len(ring) - 1)
    if ring[-1] != ring[0]:
        raise NoPaper("round", 0)
    look_whether_fair(rule, ring)
    words = [said(rule, here) for here in ring]
    if words.count(words[0]) == len(words):
        return words[0]
    return "both"


def look_whether_fair(rule, ring):
    """NoPaper of the first crowd passed at which a meeting can be that leads to none of them."""
    pairs = pairs_of(rule)
    firsts = {}
    for place, crowd in enumerate(ring):
        firsts.setdefault(crowd, place)
    for crowd, place in firsts.items():
        if not all([lead[1] in firsts for lead in leads_at(rule, pairs, crowd)]):
            raise NoPaper("fair", place)
