"""Hands one by one: the room of each, and how two of them meet [9]."""

from passersby.errors import NoMeeting


def seated(rule, counts):
    """The hands of a beginning, by sorts, each in its sort's start."""
    hands = []
    for start, many in zip(rule[1], counts):
        hands.extend([start] * many)
    return tuple(hands)


def crowd_of(rule, hands):
    """The crowd of hands."""
    numbers = [0] * rule[0]
    for room in hands:
        numbers[room] += 1
    return tuple(numbers)


def turns_of(rule):
    """The rooms that meet, the lesser one first, each with what they turn to."""
    turns = {}
    for meeting in rule[2]:
        turns[meeting[:2]] = meeting[2:]
    return turns


def turned_from(turns, one, other):
    """What a hand in the one room and another one in the other room turn to, or stay in."""
    if one <= other:
        return turns.get((one, other), (one, other))
    turned = turns.get((other, one), (other, one))
    return (turned[1], turned[0])


def hands_met(rule, hands, i, j):
    """Hands behind the meeting of two of them, or NoMeeting(0) where these are not two."""
    many = len(hands)
    if not 0 <= i < many or not 0 <= j < many or i == j:
        raise NoMeeting(0)
    rooms = list(hands)
    turned = turned_from(turns_of(rule), hands[i], hands[j])
    rooms[i] = turned[0]
    rooms[j] = turned[1]
    return tuple(rooms)
