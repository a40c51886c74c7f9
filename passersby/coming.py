"""The crowds that come from a crowd, and the ways to them [14]."""

from passersby.crowds import can_be
from passersby.crowds import led_to
from passersby.errors import TooMany


def come(rule, crowd, limit=1000):
    """All crowds that come from a crowd, sorted, or TooMany."""
    return sorted(list(steps_from(rule, crowd, limit)))


def way_to(rule, crowd, goal, limit=1000):
    """A shortest row of meetings' numbers to a goal, None where it does not come, or TooMany."""
    steps = steps_from(rule, crowd, limit)
    if goal not in steps:
        return None
    numbers = []
    step = steps[goal]
    while step is not None:
        numbers.append(step[1])
        step = steps[step[0]]
    return list(reversed(numbers))


def steps_from(rule, crowd, limit):
    """Each crowd that comes, with the crowd ahead of it and the meeting between on a shortest way; None of the first.

    Crowds are looked at in the order in which they were found, so nearer ones first.
    """
    steps = {crowd: None}
    found = [crowd]
    place = 0
    while place < len(found):
        if len(found) > limit:
            raise TooMany()
        here = found[place]
        for number, meeting in enumerate(rule[2]):
            if can_be(here, meeting):
                there = led_to(here, meeting)
                if there not in steps:
                    steps[there] = (here, number)
                    found.append(there)
        place += 1
    return steps
