"""Crowds: how many hands are in each room, and where meetings lead [8]."""

from passersby.errors import NoMeeting
from passersby.kinds import is_tuple_of
from passersby.kinds import is_whole


def is_crowd(rule, thing):
    """Whether it is a crowd of a rule."""
    if not is_tuple_of(thing, rule[0]):
        return False
    if not all([is_whole(number) and number >= 0 for number in thing]):
        return False
    return any([number > 0 for number in thing])


def begun(rule, counts):
    """A beginning's crowd."""
    numbers = [0] * rule[0]
    for start, many in zip(rule[1], counts):
        numbers[start] += many
    return tuple(numbers)


def joined(one, other):
    """Two crowds as one."""
    return tuple([many + more for many, more in zip(one, other)])


def can_be(crowd, meeting):
    """Whether a meeting can be at a crowd."""
    wanted = 2 if meeting[0] == meeting[1] else 1
    return crowd[meeting[0]] >= wanted and crowd[meeting[1]] >= wanted


def led_to(crowd, meeting):
    """The crowd that a meeting which can be leads to."""
    numbers = list(crowd)
    for room in meeting[:2]:
        numbers[room] -= 1
    for room in meeting[2:]:
        numbers[room] += 1
    return tuple(numbers)


def can(rule, crowd):
    """The numbers of the meetings that can be at a crowd, rising."""
    return [number for number, meeting in enumerate(rule[2]) if can_be(crowd, meeting)]


def met(rule, crowd, number):
    """The crowd behind a meeting, or NoMeeting(0)."""
    return walked(rule, crowd, (number,))


def walked(rule, crowd, numbers):
    """The crowd behind a row of meetings, or NoMeeting of the first place that can't be."""
    meets = rule[2]
    here = crowd
    for place, number in enumerate(numbers):
        if not 0 <= number < len(meets) or not can_be(here, meets[number]):
            raise NoMeeting(place)
        here = led_to(here, meets[number])
    return here


def said(rule, crowd):
    """What a crowd says: "yes", "no" or "both"."""
    truths = [truth for truth, many in zip(rule[3], crowd) if many > 0]
    if all(truths):
        return "yes"
    return "both" if any(truths) else "no"
