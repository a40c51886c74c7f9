"""Papers of the made rules of "rest" [12, 31].

Rooms below m are values: they come together two by two, till one hand is left that tells the others the word.
"""

from passersby.crowds import pairs_of
from passersby.making import made
from passersby.seeking import each
from passersby.seeking import hands_in
from passersby.seeking import hands_out
from passersby.seeking import kept_by
from passersby.seeking import never_in
from passersby.seeking import rest_of
from passersby.seeking import seek_one
from passersby.seeking import seek_two
from passersby.seeking import shown_by
from passersby.seeking import sum_of


class Asked:
    """What is asked: the made rule, and of which sorts by which number."""

    def __init__(self, question, sorts):
        self.made_rule = made(question, sorts)
        self.m = question[2]
        self.r = question[3]
        self.shape = (self.m + 2, sorts)
        self.ofs = tuple([1 if sort in question[1] else 0 for sort in range(sorts)])
        self.below = list(range(self.m))


def rest_paper(question, sorts):
    """A paper of the made rule of a question "rest": for each rest a stage on, then for each an end."""
    asked = Asked(question, sorts)
    ons = [rest_on(asked, k) for k in asked.below]
    ends = [rest_end(asked, k) for k in asked.below]
    trees = tuple([begun_in(asked, k) for k in asked.below])
    return (("cases", asked_form(asked, 0), asked.m, trees), tuple(ons + ends))


def asked_form(asked, number):
    """The form of the hands of the asked sorts, with a number."""
    return (number, (0,) * asked.shape[0], asked.ofs)


def value_form(asked, number):
    """The form of what the values of all hands come to, with a number."""
    return (number, tuple(asked.below) + (0, 0), (0,) * asked.shape[1])


def wrong_word(asked, k):
    """The room of the word that does not tell the truth, where the rest is k."""
    return asked.m if k == asked.r else asked.m + 1


def facts_on(asked, k):
    """The facts of the stage on of a rest: what the values come to, that there is a value, what is asked."""
    some = ("least", hands_in(asked.shape, asked.below, -1))
    return (("rest", value_form(asked, -k), asked.m), some, ("rest", asked_form(asked, -k), asked.m))


def begun_in(asked, k):
    """The tree of begin for a rest."""
    m = asked.m
    known = m + 3
    now = known + 1
    # Room a's hands, a times, are what the values come to: those of the asked sorts begin in room 1, others in room 0.
    values = rest_of(m, [(1 + a, -a) for a in asked.below] + [(known, -1), (now, 1)])
    some = shown_by([(0, 1)] + [(1 + a, 1) for a in asked.below], now)
    return ("in", k, ((values,) * (m - 1), some, kept_by(("rest", asked_form(asked, -k), m), known, now)))


def rest_on(asked, k):
    """The stage on of a rest: the values grow fewer, then those who say the wrong word do."""
    ranks = (hands_in(asked.shape, asked.below, 0), hands_in(asked.shape, [wrong_word(asked, k)], 0))
    low = shown_by([], 3)
    closed = [closed_on(asked, k, meeting) for meeting in asked.made_rule[2]]
    return ("on", facts_on(asked, k), ranks, (low, low), rest_tree(asked, k), tuple(closed))


def closed_on(asked, k, meeting):
    """The tree of closed of a meeting in the stage on of a rest."""
    if meeting[1] >= asked.m:
        return ("stays",)
    facts = facts_on(asked, k)
    hands = [3] if meeting[0] == meeting[1] else [3, 4]
    now = 3 + len(hands)
    return ("in", k, (kept_by(facts[0], 0, now), shown_by(each(hands, 1), now), kept_by(facts[2], 2, now)))


def rest_tree(asked, k):
    """The tree of the stage on of a rest: two values meet, or the only one tells its word."""

    def found(many, x, reasons):
        return told_word(asked, k, many, reasons) if x == k else other_value(asked, many, x, reasons)

    pairs = pairs_of(asked.made_rule)
    two = seek_two(asked.shape, pairs, 4, asked.below, 3)
    return ("split", hands_in(asked.shape, asked.below, -2), two, seek_one(asked.shape, 4, asked.below, (1,), found))


def other_value(asked, many, x, reasons):
    """The only value can't be another one than the rest: all values would come to it."""
    m = asked.m
    above = sum_of([(3, m), (many, 1)] + each(reasons, m - x))
    below = sum_of([(many, 1)] + each(reasons, x))
    never = ("never", rest_of(m, [(0, 1), (many, -1)]))
    return ("know", ("same", value_form(asked, -x)), (above, below), never)


def told_word(asked, k, many, reasons):
    """The only value is the rest: it meets one who says the wrong word, or there is none left."""
    wrong = wrong_word(asked, k)
    now = many + 1
    hand = shown_by(each(reasons, 1), now)
    meet = ("meet", pairs_of(asked.made_rule)[(k, wrong)], (hand, shown_by([(many, 1)], now)))
    alone = (sum_of([(3, 1), (now, 1)]), sum_of(each(reasons, 1) + [(now, 1)]))
    others = shown_by([(3, 1), (many, 1)] + each(reasons, 1), now)
    end = ("in", asked.m + k, (alone, others, kept_by(facts_on(asked, k)[2], 2, now)))
    return ("split", hands_in(asked.shape, [wrong], -1), meet, end)


def rest_end(asked, k):
    """The end of a rest: one hand is in its room, all others say its word."""
    wrong = wrong_word(asked, k)
    empty = [a for a in asked.below if a != k] + [wrong]
    alone = ("same", hands_in(asked.shape, [k], -1))
    facts = (alone, ("least", hands_out(asked.shape, empty, 0)), ("rest", asked_form(asked, -k), asked.m))
    truth = k == asked.r
    says = [sum_of([(1, 1), (3, 1)]) for said in asked.made_rule[3] if said != truth]
    asks = [rest_of(asked.m, [(2, 1), (3, -1)])] * (asked.m - 1 if truth else 1)
    closed = [end_closed(empty, meeting) for meeting in asked.made_rule[2]]
    return ("end", facts, truth, tuple(says), tuple(asks), tuple(closed))


def end_closed(empty, meeting):
    """The tree of closed of a meeting in an end: it needs a hand where there is none, or two where there is one."""
    if meeting[0] in empty or meeting[1] in empty:
        return never_in(1, empty, meeting, 3)
    return ("never", sum_of([(0, -1), (3, 1)]))
