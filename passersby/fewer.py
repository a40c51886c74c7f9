"""Rules made fewer: rooms that go alike laid together [21]."""

from passersby.hands import turned_from
from passersby.hands import turns_of


def fewer(rule):
    """The rule made fewer, with each room's part, None of a room that is not come to."""
    turns = turns_of(rule)
    rooms = rooms_come_to(rule)
    parts = parted(rule[3], turns, rooms)
    least = least_rooms(rooms, parts)
    starts = [parts[start] for start in rule[1]]
    says = [rule[3][room] for room in least]
    numbers = [parts.get(room) for room in range(rule[0])]
    meets = meets_of_parts(turns, parts, least)
    return ((len(least), tuple(starts), tuple(meets), tuple(says)), tuple(numbers))


def rooms_come_to(rule):
    """The rooms that are come to, rising."""
    rooms = {}
    for start in rule[1]:
        rooms[start] = True
    before = 0
    while before < len(rooms):
        before = len(rooms)
        for meeting in rule[2]:
            if meeting[0] in rooms and meeting[1] in rooms:
                rooms[meeting[2]] = True
                rooms[meeting[3]] = True
    return sorted(list(rooms))


def parted(says, turns, rooms):
    """The part of each room: at first by what they say, then ever finer, until no two of a part turn otherwise."""
    parts = numbered(rooms, [says[room] for room in rooms])
    many = 0
    while many < len(least_rooms(rooms, parts)):
        many = len(least_rooms(rooms, parts))
        parts = numbered(rooms, [mark_of(turns, rooms, parts, room) for room in rooms])
    return parts


def numbered(rooms, marks):
    """Rooms with one mark as one part; parts numbered by their least rooms."""
    numbers = {}
    parts = {}
    for room, mark in zip(rooms, marks):
        parts[room] = numbers.setdefault(mark, len(numbers))
    return parts


def mark_of(turns, rooms, parts, room):
    """What tells a room from others: its part, and the parts that it and each room it meets turn to."""
    return (parts[room], tuple([parts_behind(turns, parts, room, other) for other in rooms]))


def parts_behind(turns, parts, one, other):
    """The parts that hands in two rooms turn to, the lesser first: who of both turns to which does not count."""
    turned = turned_from(turns, one, other)
    return tuple(sorted([parts[turned[0]], parts[turned[1]]]))


def least_rooms(rooms, parts):
    """The least room of each part, in order."""
    least = {}
    for room in rooms:
        least.setdefault(parts[room], room)
    return list(least.values())


def meets_of_parts(turns, parts, least):
    """The meetings of parts, in order: all rooms of a part go as its least one."""
    meets = []
    for p, one in enumerate(least):
        for q in range(p, len(least)):
            behind = parts_behind(turns, parts, one, least[q])
            if behind != (p, q):
                meets.append((p, q) + behind)
    return meets
