"""Questions, and their truth at a beginning [7]."""

from passersby.kinds import are_sorts
from passersby.kinds import is_within

MOST_QUESTIONS = 7
MOST_WITHIN = 4
MOST_LEAST = 9
MOST_REST = 9


def is_question(sorts, thing):
    """Whether it is a question of so many sorts."""
    return 1 <= questions_in(sorts, thing, 0) <= MOST_QUESTIONS


def questions_in(sorts, thing, within):
    """How many questions stand in it, itself counted; 0 where it is none that may stand within so many others."""
    if within == MOST_WITHIN or not isinstance(thing, tuple) or len(thing) == 0:
        return 0
    parts = parts_of(thing[0])
    if parts == 0:
        return 1 if is_plain(sorts, thing) else 0
    if len(thing) != parts + 1:
        return 0
    inner = [questions_in(sorts, part, within + 1) for part in thing[1:]]
    return 0 if 0 in inner else 1 + sum(inner)


def parts_of(word):
    """How many questions stand straight in one that begins with the word."""
    if word in ("both", "either"):
        return 2
    return 1 if word == "not" else 0


def is_plain(sorts, thing):
    """Whether it is a question in which no other one stands."""
    word = thing[0]
    if word == "least":
        return len(thing) == 3 and are_some(sorts, thing[1]) and is_within(thing[2], 1, MOST_LEAST)
    if word == "more":
        return len(thing) == 3 and are_apart(sorts, thing[1], thing[2])
    if word == "rest":
        return len(thing) == 4 and are_some(sorts, thing[1]) and is_rest(thing[2], thing[3])
    return False


def are_some(sorts, thing):
    """Whether it is sorts, of one at least."""
    return are_sorts(sorts, thing) and len(thing) > 0


def are_apart(sorts, these, those):
    """Whether both are sorts, and none stands in both."""
    if not are_sorts(sorts, these) or not are_sorts(sorts, those):
        return False
    return not any([sort in these for sort in those])


def is_rest(by, rest):
    """Whether a number may leave this rest by that one."""
    return is_within(by, 2, MOST_REST) and is_within(rest, 0, by - 1)


def holds(question, counts):
    """The truth of a question at a beginning."""
    word = question[0]
    if word == "not":
        return not holds(question[1], counts)
    if word == "both":
        return holds(question[1], counts) and holds(question[2], counts)
    if word == "either":
        return holds(question[1], counts) or holds(question[2], counts)
    many = hands_of(question[1], counts)
    if word == "least":
        return many >= question[2]
    if word == "more":
        return many > hands_of(question[2], counts)
    return many % question[2] == question[3]


def hands_of(some, counts):
    """How many hands of a beginning are of some sorts."""
    return sum([counts[sort] for sort in some])
