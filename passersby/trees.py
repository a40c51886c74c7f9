"""Trees: from known facts on to the stages of a paper [28]."""

from passersby.forms import change_by
from passersby.forms import moved
from passersby.forms import plus
from passersby.forms import unit
from passersby.kinds import is_tuple_of
from passersby.kinds import is_within
from passersby.refuting import MOST_WITHIN
from passersby.refuting import branches_at
from passersby.refuting import refutes_at
from passersby.refuting import shows_at


class Ground:
    """What all trees of a paper stand on: its rule's meetings, and the facts of each stage."""

    def __init__(self, rule, held):
        self.rooms = rule[0]
        self.sorts = len(rule[1])
        self.meets = rule[2]
        self.held = held


class Spot:
    """Where a tree stands: the least and the last stage it may lead to; in closed its meeting; of a stage its ranks."""

    def __init__(self, least, last, meeting, ranks):
        self.least = least
        self.last = last
        self.meeting = meeting
        self.ranks = ranks


def meeting_facts(rooms, sorts, meeting):
    """The least facts that a meeting can be: a's, then b's; or the one of two hands in one room."""
    a = meeting[0]
    b = meeting[1]
    if a == b:
        return (("least", plus(unit(rooms, sorts, a), -2)),)
    return (("least", plus(unit(rooms, sorts, a), -1)), ("least", plus(unit(rooms, sorts, b), -1)))


def moved_fact(fact, meeting):
    """The fact that holds just where the given one does behind the meeting."""
    return (fact[0], moved(fact[1], meeting)) + fact[2:]


def grows(ground, spot, known, thing):
    """Whether it is a tree that goes on from the known facts."""
    return grows_at(1, ground, spot, known, thing)


def grows_at(depth, ground, spot, known, thing):
    """Whether it is a tree, where it is the so manieth of trees and refutations within one another."""
    if depth > MOST_WITHIN or not isinstance(thing, tuple) or len(thing) == 0:
        return False
    word = thing[0]
    if word == "never":
        return len(thing) == 2 and refutes_at(depth + 1, ground.rooms, ground.sorts, known, thing[1])
    if word == "in":
        return len(thing) == 3 and leads_in(depth, ground, spot, known, thing)
    if word == "stays":
        return len(thing) == 1 and stays(ground, spot)
    if word == "meet":
        return len(thing) == 3 and meets_on(depth, ground, spot, known, thing)
    branches = branches_at(depth, ground.rooms, ground.sorts, known, thing)
    if branches is None:
        return False
    for fact, part in branches:
        if not grows_at(depth + 1, ground, spot, known + (fact,), part):
            return False
    return True


def all_shown(depth, ground, known, facts, thing):
    """Whether it is a tuple with, for each of the facts, in order, a tuple that shows it."""
    if not is_tuple_of(thing, len(facts)):
        return False
    for fact, part in zip(facts, thing):
        if not shows_at(depth, ground.rooms, ground.sorts, known, fact, part):
            return False
    return True


def leads_in(depth, ground, spot, known, thing):
    """Whether all facts of a stage that may be led to are shown; in closed as moved by the meeting."""
    if not is_within(thing[1], spot.least, spot.last):
        return False
    facts = ground.held[thing[1]]
    if spot.meeting is not None:
        facts = [moved_fact(fact, spot.meeting) for fact in facts]
    return all_shown(depth + 1, ground, known, facts, thing[2])


def stays(ground, spot):
    """Whether the tree is one of closed, and no fact of the own stage is lost as it stands."""
    if spot.meeting is None:
        return False
    return all([is_kept(fact, spot.meeting) for fact in ground.held[spot.least]])


def is_kept(fact, meeting):
    """Whether a fact that holds does so behind the meeting, as its change tells."""
    change = change_by(fact[1], meeting)
    if fact[0] == "least":
        return change >= 0
    if fact[0] == "same":
        return change == 0
    return change % fact[2] == 0


def meets_on(depth, ground, spot, known, thing):
    """Whether the tree is an on stage's own, and a meeting is shown to be there by which the ranks fall."""
    if spot.ranks is None or not is_within(thing[1], 0, len(ground.meets) - 1):
        return False
    meeting = ground.meets[thing[1]]
    if not do_fall(spot.ranks, meeting):
        return False
    return all_shown(depth + 1, ground, known, meeting_facts(ground.rooms, ground.sorts, meeting), thing[2])


def do_fall(ranks, meeting):
    """Whether of the changes of ranks one is not 0, and the first such one is below 0."""
    for rank in ranks:
        change = change_by(rank, meeting)
        if change != 0:
            return change < 0
    return False
