"""Papers of two rules put together to one of the rules side by side [34].

A stage for each pair of stages: its facts are those of the one's, then those of the other's. The one is led to an end
first, then the other; each meeting is followed in both.
"""

from passersby.asked import rows_of
from passersby.beside import beside
from passersby.beside import paired_truth
from passersby.lowering import deepness
from passersby.lowering import lowered
from passersby.refuting import MOST_WITHIN
from passersby.seeking import kept_by
from passersby.thinning import fitting
from passersby.views import View
from passersby.views import all_shown_through
from passersby.views import begin_fits
from passersby.views import facts_through
from passersby.views import fits_from
from passersby.views import form_through
from passersby.views import meeting_fits
from passersby.views import refutation_through
from passersby.views import seen_number
from passersby.views import tree_through


class Side:
    """One of both: its rule as the pairs of rooms are seen as it, its question and its paper."""

    def __init__(self, pairs, given, places):
        self.view = View(pairs, given[0], places)
        self.own_rule = given[0]
        self.truths = given[0][3]
        self.asked_for = given[1]
        self.begin = given[3][0]
        self.stages = given[3][1]


class Couple:
    """Both, and the word and the rule of pairs."""

    def __init__(self, word, given, other):
        pairs = beside(given[0], other[0], word)
        many = other[0][0]
        self.word = word
        self.rule = pairs
        self.one = Side(pairs, given, tuple([room // many for room in range(pairs[0])]))
        self.other = Side(pairs, other, tuple([room % many for room in range(pairs[0])]))


def put_together(word, one, other):
    """A paper of two rules side by side, of their papers; one and other tuples (rule, question, few, paper)."""
    couple = Couple(word, one, other)
    stages = []
    for i in range(len(couple.one.stages)):
        for j in range(len(couple.other.stages)):
            stages.append(stage_of_pair(couple, i, j))
    return fitting(couple.rule, (begin_of_pair(couple), tuple(stages)))


def number_of_pair(couple, i, j):
    """The number of the stage of a pair: greater where either is, as long as the other is not lesser."""
    return i * len(couple.other.stages) + j


def begin_of_pair(couple):
    """The tree of begin, with lower ones of both where it would be too deep."""
    tree = begin_by(couple, couple.one.begin, couple.other.begin)
    if deepness(tree) <= MOST_WITHIN:
        return tree
    return begin_by(couple, lowered_begin(couple.one), lowered_begin(couple.other))


def lowered_begin(side):
    """A side's tree of begin, of as few trees within one another as can be."""
    rule = side.own_rule
    return lowered(View(rule, rule, tuple(range(rule[0]))), 1 + rule[0], side.begin)


def begin_by(couple, one_tree, other_tree):
    """The one's tree, then in each place where it leads to a stage the other's."""
    one = couple.one.view
    other = couple.other.view

    def leaf(fits, many, part):
        def inner(other_fits, now, other_part):
            shown = all_shown_through(one, fits, now, part[2])
            other_shown = all_shown_through(other, other_fits, now, other_part[2])
            return ("in", number_of_pair(couple, part[1], other_part[1]), shown + other_shown)

        return tree_through(other, begin_fits(other), many, other_tree, inner)

    return tree_through(one, begin_fits(one), 1 + couple.rule[0], one_tree, leaf)


def stage_of_pair(couple, i, j):
    """The stage of a pair of stages."""
    first = couple.one.stages[i]
    second = couple.other.stages[j]
    facts = facts_through(couple.one.view, first[1]) + facts_through(couple.other.view, second[1])
    closed = tuple([closed_of_pair(couple, i, j, meeting) for meeting in couple.rule[2]])
    if first[0] == "on":
        return ("on", facts) + led_by_one(couple, i, j) + (closed,)
    if second[0] == "on":
        return ("on", facts) + led_by_other(couple, i, j) + (closed,)
    truth = paired_truth(first[2], second[2], couple.word)
    return ("end", facts, truth, says_of_pair(couple, first, second), asks_of_pair(couple, first, second), closed)


def all_kept(facts, first, many):
    """What shows facts that are known, from the first number on."""
    return tuple([kept_by(fact, first + place, many) for place, fact in enumerate(facts)])


def led_by_one(couple, i, j):
    """Ranks, lows and tree of the one's stage, the other's stays."""
    own = couple.one.stages[i][1]
    facts = couple.other.stages[j][1]

    def leaf(fits, many, part):
        shown = all_shown_through(couple.one.view, fits, many, part[2]) + all_kept(facts, len(own), many)
        return ("in", number_of_pair(couple, part[1], j), shown)

    return led_by(couple.one, i, fits_from(0, len(own)), len(own) + len(facts), leaf)


def led_by_other(couple, i, j):
    """Ranks, lows and tree of the other's stage, the one's stays: it is an end."""
    own = couple.other.stages[j][1]
    facts = couple.one.stages[i][1]

    def leaf(fits, many, part):
        shown = all_kept(facts, 0, many) + all_shown_through(couple.other.view, fits, many, part[2])
        return ("in", number_of_pair(couple, i, part[1]), shown)

    return led_by(couple.other, j, fits_from(len(facts), len(own)), len(own) + len(facts), leaf)


def led_by(side, number, fits, many, leaf):
    """Ranks, lows and tree of a side's stage."""
    stage = side.stages[number]
    ranks = tuple([form_through(side.view, rank) for rank in stage[2]])
    lows = all_shown_through(side.view, fits, many, stage[3])
    return (ranks, lows, tree_through(side.view, fits, many, stage[4], leaf))


def closed_of_pair(couple, i, j, meeting):
    """The tree of closed of a meeting of pairs: the one's, then in each place where that ends the other's."""
    own = couple.one.stages[i][1]
    facts = couple.other.stages[j][1]
    first = len(own) + len(facts)
    known = first + (1 if meeting[0] == meeting[1] else 2)
    own_fits = fits_from(0, len(own)) + meeting_fits(couple.one.view, meeting, first)
    other_fits = fits_from(len(own), len(facts)) + meeting_fits(couple.other.view, meeting, first)
    other_tree = closed_of(couple.other, j, meeting)

    def leaf(fits, many, part):
        def inner(now_fits, now, other_part):
            if part[0] == "stays" and other_part[0] == "stays":
                return part
            one = led_in(couple.one.view, fits, now, part, i, all_kept(own, 0, now))
            other = led_in(couple.other.view, now_fits, now, other_part, j, all_kept(facts, len(own), now))
            return ("in", number_of_pair(couple, one[0], other[0]), one[1] + other[1])

        return tree_through(couple.other.view, other_fits, many, other_tree, inner)

    return tree_through(couple.one.view, own_fits, known, closed_of(couple.one, i, meeting), leaf)


def closed_of(side, number, meeting):
    """A side's tree of closed of a meeting of pairs; it stays where the side tells no meeting."""
    seen = seen_number(side.view, meeting)
    return ("stays",) if seen is None else side.stages[number][5][seen]


def led_in(view, fits, many, part, number, kept):
    """The stage that a side comes to, and what shows its facts: those of its own are kept where it stays."""
    if part[0] == "stays":
        return (number, kept)
    return (part[1], all_shown_through(view, fits, many, part[2]))


def says_of_pair(couple, first, second):
    """What is said in an end: a pair that says the other truth has a room that says other than its side's end."""
    own = len(first[1])
    many = own + len(second[1])
    truth = paired_truth(first[2], second[2], couple.word)
    told = []
    for room, said in enumerate(couple.rule[3]):
        if said != truth and couple.one.truths[couple.one.view.places[room]] != first[2]:
            told.append(said_by(couple.one, first, fits_from(0, own), many, room))
        elif said != truth:
            told.append(said_by(couple.other, second, fits_from(own, len(second[1])), many, room))
    return tuple(told)


def said_by(side, stage, fits, many, room):
    """The refutation of a side's end that a hand is in a room."""
    rooms = [place for place, truth in enumerate(side.truths) if truth != stage[2]]
    part = stage[3][rooms.index(side.view.places[room])]
    return refutation_through(side.view, fits + ((many,),), many + 1, part)


def asks_of_pair(couple, first, second):
    """What is asked in an end, row by row."""
    truth = paired_truth(first[2], second[2], couple.word)
    own = len(first[1])
    many = own + len(second[1])
    ones = row_lengths(couple.one, not truth)
    others = row_lengths(couple.other, not truth)
    fits = fits_from(0, own)
    other_fits = fits_from(own, len(second[1]))
    told = []
    if truth == (couple.word == "both"):
        # The other truth is had where either has it, and both ends refute it: rows of the one, then of the other.
        for row, length in enumerate(ones):
            told.append(asked_by(couple.one, first[4][row], fits, many, length, 0))
        for row, length in enumerate(others):
            told.append(asked_by(couple.other, second[4][row], other_fits, many, length, 0))
        return tuple(told)
    # The other truth is had where both have it: an end of this truth refutes each of its rows, whatever stands by it.
    for row, length in enumerate(ones):
        for other_row, other_length in enumerate(others):
            if first[2] == truth:
                told.append(asked_by(couple.one, first[4][row], fits, many, length, other_length))
            else:
                told.append(asked_by(couple.other, second[4][other_row], other_fits, many + length, other_length, 0))
    return tuple(told)


def row_lengths(side, truth):
    """How many facts there are in each row by which a side's question has a truth."""
    return [len(row) for row in rows_of(side.own_rule[0], side.view.shape[1], side.asked_for, truth)]


def asked_by(side, part, fits, first, length, behind):
    """A side's refutation of a row of that length that stands from the first number on, others behind it."""
    return refutation_through(side.view, fits + fits_from(first, length), first + length + behind, part)
