"""Crowds: how many hands are in each room, and where meetings lead [8]."""

from passersby.errors import NoMeeting
from passersby.kinds import is_tuple_of
from passersby.kinds import is_whole
from passersby.kinds import is_within


def is_crowd(rule, thing):
    """Whether it is a crowd of a rule."""
    if not is_tuple_of(thing, rule[0]):
        return False
    if not all([is_whole(number) and number >= 0 for number in thing]):
        return False
    return any([number > 0 for number in thing])


def begun(rule, counts):
    """A beginning's crowd."""
    numbers = [0] * rule[0]
    for start, many in zip(rule[1], counts):
        numbers[start] += many
    return tuple(numbers)


def joined(one, other):
    """Two crowds as one."""
    return tuple([many + more for many, more in zip(one, other)])


def can_be(crowd, meeting):
    """Whether a meeting can be at a crowd."""
    wanted = 2 if meeting[0] == meeting[1] else 1
    return crowd[meeting[0]] >= wanted and crowd[meeting[1]] >= wanted


def led_to(crowd, meeting):
    """The crowd that a meeting which can be leads to."""
    numbers = list(crowd)
    for room in meeting[:2]:
        numbers[room] -= 1
    for room in meeting[2:]:
        numbers[room] += 1
    return tuple(numbers)


def can(rule, crowd):
    """The numbers of the meetings that can be at a crowd, rising."""
    return [number for number, meeting in enumerate(rule[2]) if can_be(crowd, meeting)]


def met(rule, crowd, number):
    """The crowd behind a meeting, or NoMeeting(0)."""
    return walked(rule, crowd, (number,))


def walked(rule, crowd, numbers):
    """The crowd behind a row of meetings, or NoMeeting of the first place that can't be."""
    crowds = passed(rule, crowd, numbers)
    if len(crowds) <= len(numbers):
        raise NoMeeting(len(crowds) - 1)
    return crowds[-1]


def passed(rule, crowd, things):
    """The crowds passed by a row of things, the first one too, up to a thing that is no meeting's that can be there."""
    meets = rule[2]
    crowds = [crowd]
    for thing in things:
        here = crowds[-1]
        if not is_within(thing, 0, len(meets) - 1) or not can_be(here, meets[thing]):
            return crowds
        crowds.append(led_to(here, meets[thing]))
    return crowds


def pairs_of(rule):
    """The number of each meeting, by the two rooms that meet."""
    pairs = {}
    for number, meeting in enumerate(rule[2]):
        pairs[meeting[:2]] = number
    return pairs


def leads_at(rule, pairs, crowd):
    """A tuple (number, crowd) for each meeting that can be at a crowd, and what it leads to; by numbers, rising.

    The rooms with hands are walked, not the meetings: most crowds leave most rooms of a great rule empty.
    """
    meets = rule[2]
    rooms = [room for room, many in enumerate(crowd) if many > 0]
    leads = []
    for place, a in enumerate(rooms):
        for b in rooms[place:]:
            number = pairs.get((a, b))
            if number is not None and can_be(crowd, meets[number]):
                leads.append((number, led_to(crowd, meets[number])))
    return leads


def said(rule, crowd):
    """What a crowd says: "yes", "no" or "both"."""
    truths = [truth for truth, many in zip(rule[3], crowd) if many > 0]
    if all(truths):
        return "yes"
    return "both" if any(truths) else "no"
