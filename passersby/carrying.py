"""Papers of rules made fewer, carried to the rules themselves [33]."""

from passersby.fewer import fewer
from passersby.seeking import hands_out
from passersby.seeking import kept_by
from passersby.seeking import never_in
from passersby.seeking import shown_by
from passersby.seeking import sum_of
from passersby.thinning import fitting
from passersby.views import View
from passersby.views import all_shown_through
from passersby.views import begin_fits
from passersby.views import facts_through
from passersby.views import fits_behind
from passersby.views import fits_from
from passersby.views import form_through
from passersby.views import meeting_fits
from passersby.views import refutation_through
from passersby.views import seen_number
from passersby.views import tree_through


class Load:
    """What is carried to: the rule, how it is seen as the one made fewer, and the rooms that are not come to."""

    def __init__(self, rule):
        made_fewer = fewer(rule)
        self.rule = rule
        self.seen_says = made_fewer[0][3]
        self.view = View(rule, made_fewer[0], made_fewer[1])
        self.gone = [room for room, part in enumerate(made_fewer[1]) if part is None]
        # Nobody is ever there: one fact more of each stage, where there are such rooms.
        self.nobody = ("least", hands_out(self.view.shape, self.gone, 0))
        self.extra = 1 if len(self.gone) > 0 else 0


def carried(rule, paper):
    """A paper of a rule, of one of the rule made fewer."""
    load = Load(rule)
    begin = tree_through(load.view, begin_fits(load.view), 1 + rule[0], paper[0], begin_leaf(load))
    stages = [carried_stage(load, stage) for stage in paper[1]]
    return fitting(rule, (begin, tuple(stages)))


def begin_leaf(load):
    """How begin leads to a stage: none starts in a room that is not come to."""

    def leaf(fits, many, part):
        shown = all_shown_through(load.view, fits, many, part[2])
        nobody = shown_by([(1 + room, -1) for room in load.gone], many)
        return ("in", part[1], shown + (nobody,) * load.extra)

    return leaf


def stage_leaf(load, number):
    """How a tree of a stage leads on, where nobody is in such rooms by the fact of that number."""

    def leaf(fits, many, part):
        if part[0] == "stays":
            return part
        shown = all_shown_through(load.view, fits, many, part[2])
        return ("in", part[1], shown + (kept_by(load.nobody, number, many),) * load.extra)

    return leaf


def carried_stage(load, stage):
    """A stage of the rule."""
    view = load.view
    own = len(stage[1])
    facts = facts_through(view, stage[1]) + (load.nobody,) * load.extra
    fits = fits_from(0, own)
    closed = tuple([carried_closed(load, stage, meeting) for meeting in load.rule[2]])
    if stage[0] == "on":
        ranks = tuple([form_through(view, rank) for rank in stage[2]])
        lows = all_shown_through(view, fits, len(facts), stage[3])
        tree = tree_through(view, fits, len(facts), stage[4], stage_leaf(load, own))
        return ("on", facts, ranks, lows, tree, closed)
    # How many facts a row has is the question's affair: they stand behind the stage's, and all else behind them.
    asks = [refutation_through(view, fits_behind(fits, len(facts)), 0, part) for part in stage[4]]
    return ("end", facts, stage[2], carried_says(load, stage), tuple(asks), closed)


def carried_closed(load, stage, meeting):
    """The tree of closed of a meeting."""
    own = len(stage[1])
    many = own + load.extra
    if meeting[0] in load.gone or meeting[1] in load.gone:
        return never_in(own, load.gone, meeting, many)
    number = seen_number(load.view, meeting)
    if number is None:
        return ("stays",)
    fits = fits_from(0, own) + meeting_fits(load.view, meeting, many)
    known = many + (1 if meeting[0] == meeting[1] else 2)
    return tree_through(load.view, fits, known, stage[5][number], stage_leaf(load, own))


def carried_says(load, stage):
    """What is said in an end: of each room that says the other truth, by its part or as nobody is there."""
    own = len(stage[1])
    many = own + load.extra
    parts = [part for part, truth in enumerate(load.seen_says) if truth != stage[2]]
    fits = fits_from(0, own) + ((many,),)
    told = []
    for room, truth in enumerate(load.rule[3]):
        if truth != stage[2] and room in load.gone:
            told.append(sum_of([(own, 1), (many, 1)]))
        elif truth != stage[2]:
            said = stage[3][parts.index(load.view.places[room])]
            told.append(refutation_through(load.view, fits, many + 1, said))
    return tuple(told)
