"""The paper checker: whether a thing shows that a rule answers a question, of whatever many hands [27, 30]."""

from passersby.asked import rows_of
from passersby.facts import fact_holds
from passersby.facts import is_fact
from passersby.forms import is_form
from passersby.forms import plus
from passersby.forms import unit
from passersby.kinds import is_tuple_of
from passersby.refuting import refutes
from passersby.refuting import shows
from passersby.trees import Ground
from passersby.trees import Spot
from passersby.trees import grows
from passersby.trees import meeting_facts

MOST_STAGES = 80
MOST_FACTS = 24
MOST_RANKS = 4


def lets_paper(rule, question, few, thing):
    """Whether it is a paper for a rule, a question and so few hands."""
    if not is_tuple_of(thing, 2) or not are_stages(rule, thing[1]):
        return False
    ground = Ground(rule, [stage[1] for stage in thing[1]])
    spot = Spot(0, len(thing[1]) - 1, None, None)
    if not grows(ground, spot, begin_facts(rule, few), thing[0]):
        return False
    for number, stage in enumerate(thing[1]):
        if not stands(ground, rule, question, number, stage):
            return False
    return True


def stages_at(paper, crowd, counts):
    """The numbers of the stages all of whose facts hold at a crowd and a beginning, rising."""
    told = []
    for number, stage in enumerate(paper[1]):
        if all([fact_holds(fact, crowd, counts) for fact in stage[1]]):
            told.append(number)
    return told


def are_stages(rule, thing):
    """Whether it is a tuple of stages, as far as their words, facts and ranks or truths tell."""
    if not isinstance(thing, tuple) or not 1 <= len(thing) <= MOST_STAGES:
        return False
    return all([is_stage(rule, stage) for stage in thing])


def is_stage(rule, thing):
    """Whether it is an on stage or an end, its refutations and trees not looked at."""
    if not is_tuple_of(thing, 6) or not are_facts(rule, thing[1]) or not is_tuple_of(thing[5], len(rule[2])):
        return False
    if thing[0] == "on":
        return are_ranks(rule, thing[2]) and is_tuple_of(thing[3], len(thing[2]))
    return thing[0] == "end" and isinstance(thing[2], bool)


def are_facts(rule, thing):
    """Whether it is a tuple of facts of a rule, as many as a stage may have."""
    if not isinstance(thing, tuple) or not 1 <= len(thing) <= MOST_FACTS:
        return False
    return all([is_fact(rule[0], len(rule[1]), fact) for fact in thing])


def are_ranks(rule, thing):
    """Whether it is a tuple of forms of a rule, as many as an on stage may have."""
    if not isinstance(thing, tuple) or not 1 <= len(thing) <= MOST_RANKS:
        return False
    return all([is_form(rule[0], len(rule[1]), rank) for rank in thing])


def begin_facts(rule, few):
    """What is known of a beginning of at least so few hands and its crowd."""
    rooms = rule[0]
    sorts = len(rule[1])
    facts = [("least", (-few, (0,) * rooms, (1,) * sorts))]
    for room in range(rooms):
        ofs = [-1 if start == room else 0 for start in rule[1]]
        facts.append(("same", (0, unit(rooms, sorts, room)[1], tuple(ofs))))
    return tuple(facts)


def stands(ground, rule, question, number, stage):
    """Whether all of a stage that are_stages does not look at is as told."""
    last = len(ground.held) - 1
    if stage[0] == "on":
        spot = Spot(number + 1, last, None, stage[2])
        if not are_low(ground, stage) or not grows(ground, spot, stage[1], stage[4]):
            return False
        return are_closed(ground, number, last, stage)
    if not are_said(ground, rule, stage) or not are_asked(ground, question, stage):
        return False
    return are_closed(ground, number, number, stage)


def are_low(ground, stage):
    """Whether each rank is shown never to be below 0."""
    for rank, low in zip(stage[2], stage[3]):
        if not shows(ground.rooms, ground.sorts, stage[1], ("least", rank), low):
            return False
    return True


def are_closed(ground, number, last, stage):
    """Whether each meeting leads to a stage from the own number to the last one."""
    for meeting, tree in zip(ground.meets, stage[5]):
        known = stage[1] + meeting_facts(ground.rooms, ground.sorts, meeting)
        if not grows(ground, Spot(number, last, meeting, None), known, tree):
            return False
    return True


def are_said(ground, rule, stage):
    """Whether for each room that says the other truth than an end it is refuted that a hand is there."""
    rooms = [room for room, truth in enumerate(rule[3]) if truth != stage[2]]
    rows = [(("least", plus(unit(ground.rooms, ground.sorts, room), -1)),) for room in rooms]
    return are_refuted(ground, stage[1], rows, stage[3])


def are_asked(ground, question, stage):
    """Whether each row by which the question has the other truth than an end is refuted."""
    rows = rows_of(ground.rooms, ground.sorts, question, not stage[2])
    return are_refuted(ground, stage[1], rows, stage[4])


def are_refuted(ground, facts, rows, thing):
    """Whether it is a tuple with, for each row of facts, in order, a refutation of the facts with that row."""
    if not is_tuple_of(thing, len(rows)):
        return False
    for row, part in zip(rows, thing):
        if not refutes(ground.rooms, ground.sorts, facts + row, part):
            return False
    return True
