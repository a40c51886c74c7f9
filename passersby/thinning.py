"""Papers with fewer facts: what is told twice in a stage, or shows nothing that is asked, is left out."""

from passersby.paperchecker import MOST_FACTS
from passersby.views import View
from passersby.views import all_shown_through
from passersby.views import fits_behind
from passersby.views import refutation_through
from passersby.views import tree_through


def fitting(rule, paper):
    """A paper of a rule, thinned where a stage has more facts than one may have."""
    if all([len(stage[1]) <= MOST_FACTS for stage in paper[1]]):
        return paper
    return thinned(rule, paper)


def thinned(rule, paper):
    """A paper of a rule without facts that nothing is shown by."""
    needed = needed_facts(paper[1])
    view = View(rule, rule, tuple(range(rule[0])))
    begin = thinned_tree(view, fits_behind((), 0), paper[0], needed)
    stages = [thinned_stage(view, stage, needed[number], needed) for number, stage in enumerate(paper[1])]
    return (begin, tuple(stages))


def needed_facts(stages):
    """For each stage the numbers of the facts that are needed, rising."""
    stands = [stand_ins(stage[1]) for stage in stages]
    needed = all_needed(stages, stands, [[] for stage in stages])
    # A stage has at least one fact; what shows it may need others.
    return all_needed(stages, stands, [numbers if len(numbers) > 0 else [0] for numbers in needed])


def all_needed(stages, stands, needed):
    """What is needed, from what is needed at least."""
    more = [needed_in(stage, stood, needed, own) for stage, stood, own in zip(stages, stands, needed)]
    while more != needed:
        needed = more
        more = [needed_in(stage, stood, needed, own) for stage, stood, own in zip(stages, stands, needed)]
    return needed


def needed_in(stage, stood, needed, own):
    """The numbers of the facts of a stage that are needed, by what is needed of all stages, of its own too."""
    numbers = {}
    for number in own:
        numbers[number] = True
    for number in cited_in(firsts_of(stage), needed):
        if number < len(stood) and stood[number] is not None:
            numbers[stood[number]] = True
    return sorted(list(numbers))


def stand_ins(facts):
    """For each fact the number of one that says as much and may be told in its place, None where none has to be."""
    return [stand_in(facts, number) for number in range(len(facts))]


def stand_in(facts, number):
    """The number of a fact in the place of which no other one may be told, or None."""
    if is_always(facts[number]):
        return None
    own = facts[number]
    better = [k for k, fact in enumerate(facts) if says_more(fact, own) and (fact != own or k < number)]
    return number if len(better) == 0 else stand_in(facts, better[0])


def is_always(fact):
    """Whether a fact holds at each crowd and beginning, as its numbers tell."""
    numbers = numbers_in(fact)
    if fact[0] == "least":
        return all([number >= 0 for number in numbers])
    by = 0 if fact[0] == "same" else fact[2]
    return all([number == 0 or by > 0 and number % by == 0 for number in numbers])


def says_more(fact, other):
    """Whether a fact says as much as another one or more, so that it may be told as often in any sum or rest."""
    if fact[0] == "least" and other[0] == "least":
        return all([here <= there for here, there in zip(numbers_in(fact), numbers_in(other))])
    return fact == other


def numbers_in(fact):
    """The numbers of a fact's form."""
    return (fact[1][0],) + fact[1][1] + fact[1][2]


def firsts_of(stage):
    """The trees and refutations that stand in a stage."""
    if stage[0] == "end":
        return stage[3] + stage[4] + stage[5]
    told = []
    for low in stage[3]:
        told.extend(low)
    return told + [stage[4]] + list(stage[5])


def cited_in(things, needed):
    """The numbers of all facts that trees and refutations tell, but to show what is not needed."""
    cited = []
    waiting = list(things)
    while len(waiting) > 0:
        thing = waiting.pop()
        if thing[0] in ("sum", "rest"):
            cited.extend([pair[0] for pair in thing[-1]])
        else:
            waiting.extend(parts_in(thing, needed))
    return cited


def parts_in(thing, needed):
    """What stands straight in a tree or refutation, as far as it is needed."""
    word = thing[0]
    if word == "never":
        return [thing[1]]
    if word == "split":
        return [thing[2], thing[3]]
    if word == "cases":
        return list(thing[3])
    if word == "know":
        return list(thing[2]) + [thing[3]]
    parts = []
    if word == "in":
        for number in needed[thing[1]]:
            parts.extend(thing[2][number])
    if word == "meet":
        for shown in thing[2]:
            parts.extend(shown)
    return parts


def thinned_tree(view, fits, tree, needed):
    """A tree that goes on from the facts that are left."""

    def leaf(now_fits, many, part):
        if part[0] == "stays":
            return part
        shown = [part[2][number] for number in needed[part[1]]]
        return ("in", part[1], all_shown_through(view, now_fits, many, shown))

    return tree_through(view, fits, 0, tree, leaf)


def thinned_stage(view, stage, own, needed):
    """A stage with the facts of its own that are needed."""
    facts = tuple([stage[1][number] for number in own])
    fits = tuple([(own.index(number),) if number in own else () for number in stand_ins(stage[1])])
    fits = fits_behind(fits, len(own))
    closed = tuple([thinned_tree(view, fits, tree, needed) for tree in stage[5]])
    if stage[0] == "on":
        lows = all_shown_through(view, fits, 0, stage[3])
        return ("on", facts, stage[2], lows, thinned_tree(view, fits, stage[4], needed), closed)
    says = [refutation_through(view, fits, 0, part) for part in stage[3]]
    asks = [refutation_through(view, fits, 0, part) for part in stage[4]]
    return ("end", facts, stage[2], tuple(says), tuple(asks), closed)
