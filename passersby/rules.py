"""Rules, and how many hands of each sort begin [5, 6]."""

from passersby.kinds import is_tuple_of
from passersby.kinds import is_within

MOST_ROOMS = 40
MOST_SORTS = 4
MOST_HANDS = 1000000


def is_counts(sorts, thing):
    """Whether it is a beginning of so many sorts."""
    if not is_tuple_of(thing, sorts):
        return False
    if not all([is_within(number, 0, MOST_HANDS) for number in thing]):
        return False
    return any([number > 0 for number in thing])


def is_rule(thing):
    """Whether it is a rule (rooms, starts, meets, says)."""
    if not is_tuple_of(thing, 4):
        return False
    rooms = thing[0]
    if not is_within(rooms, 1, MOST_ROOMS):
        return False
    return are_starts(rooms, thing[1]) and are_meets(rooms, thing[2]) and are_says(rooms, thing[3])


def are_starts(rooms, thing):
    """Whether it is a tuple with a room for each of one to four sorts."""
    if not isinstance(thing, tuple) or not 1 <= len(thing) <= MOST_SORTS:
        return False
    return are_rooms(rooms, thing)


def are_says(rooms, thing):
    """Whether it is a tuple with a truth for each room."""
    return is_tuple_of(thing, rooms) and all([isinstance(truth, bool) for truth in thing])


def are_meets(rooms, thing):
    """Whether it is a tuple of meetings that rise by the rooms that meet."""
    if not isinstance(thing, tuple):
        return False
    # Below every pair of rooms, so that any meeting may come first.
    ahead = (0, -1)
    for meeting in thing:
        if not is_meeting(rooms, meeting) or meeting[:2] <= ahead:
            return False
        ahead = meeting[:2]
    return True


def is_meeting(rooms, thing):
    """Whether it is a meeting that changes something, told by the lesser room first."""
    if not is_tuple_of(thing, 4) or not are_rooms(rooms, thing):
        return False
    if thing[0] > thing[1]:
        return False
    return thing[2:] not in (thing[:2], (thing[1], thing[0]))


def are_rooms(rooms, thing):
    """Whether all things of a tuple are numbers of rooms."""
    return all([is_within(room, 0, rooms - 1) for room in thing])
