"""A rule seen as another one, room by room: what the trees and refutations of the other one's papers say of it.

Each room of the rule has a place, a room of the seen one, or None; two hands in rooms with places meet as in the seen
rule, as far as places tell. fits has, for each fact that is known of the seen rule, the numbers of the facts known
here that come to it, or to more; many is how many are known here.
"""

from passersby.crowds import pairs_of
from passersby.seeking import hands_in
from passersby.seeking import meeting_of
from passersby.seeking import seek_both
from passersby.seeking import seek_two
from passersby.seeking import times_of

# More facts than are ever known beside those of a stage: by a meeting, a row, and all within one another.
MOST_MORE = 99


class View:
    """A rule, the seen one, and the place of each room."""

    def __init__(self, rule, seen, places):
        self.shape = (rule[0], len(rule[1]))
        self.pairs = pairs_of(rule)
        self.seen_rooms = seen[0]
        self.seen_meets = seen[2]
        self.seen_pairs = pairs_of(seen)
        self.places = places


def rooms_at(view, place):
    """The rooms of a place."""
    return [room for room, here in enumerate(view.places) if here == place]


def form_through(view, form):
    """The form of the rule that has the value of the seen one's, where no hand is in a room without a place."""
    ins = [0 if place is None else form[1][place] for place in view.places]
    return (form[0], tuple(ins), form[2])


def fact_through(view, fact):
    """The fact of the rule that the seen one's says."""
    return (fact[0], form_through(view, fact[1])) + fact[2:]


def facts_through(view, facts):
    """The facts of the rule that the seen one's say."""
    return tuple([fact_through(view, fact) for fact in facts])


def fits_from(first, many):
    """So many facts that stand one behind the other from the first number on."""
    return tuple([(first + place,) for place in range(many)])


def fits_behind(fits, first):
    """What fits where, behind the facts that these fit, all others stand one behind the other from the first on."""
    return fits + fits_from(first, MOST_MORE)


def begin_fits(view):
    """What fits the facts that begin goes on from: of a seen room the facts of all rooms of that place."""
    rooms = [tuple([1 + room for room in rooms_at(view, place)]) for place in range(view.seen_rooms)]
    return ((0,),) + tuple(rooms)


def seen_number(view, meeting):
    """The number of the seen rule's meeting, None where it tells none: then all stay, as far as places tell."""
    places = sorted([view.places[meeting[0]], view.places[meeting[1]]])
    return view.seen_pairs.get(tuple(places))


def meeting_fits(view, meeting, first):
    """What fits the facts that the seen meeting can be, where those of the meeting stand from the first number on."""
    one = view.places[meeting[0]]
    other = view.places[meeting[1]]
    if meeting[0] == meeting[1]:
        return ((first,),)
    if one == other:
        # A hand in each of two rooms of one place: two hands there.
        return ((first, first + 1),)
    return ((first,), (first + 1,)) if one < other else ((first + 1,), (first,))


def through(view, fits, many, thing, leaf):
    """A tree or refutation of the seen rule as one of the rule; leaf tells it of those in which none else stands."""
    word = thing[0]
    longer = fits + ((many,),)
    if word == "split":
        one = through(view, longer, many + 1, thing[2], leaf)
        return (word, form_through(view, thing[1]), one, through(view, longer, many + 1, thing[3], leaf))
    if word == "cases":
        parts = [through(view, longer, many + 1, part, leaf) for part in thing[3]]
        return (word, form_through(view, thing[1]), thing[2], tuple(parts))
    if word == "know":
        shown = shown_through(view, fits, many, thing[2])
        return (word, fact_through(view, thing[1]), shown, through(view, longer, many + 1, thing[3], leaf))
    return leaf(fits, many, thing)


def refutation_through(view, fits, many, thing):
    """A refutation of the seen rule as one of the rule."""
    return through(view, fits, many, thing, times_through)


def times_through(fits, many, thing):
    """A sum or rest with the facts that fit."""
    times = {}
    for i, t in thing[-1]:
        for number in fits[i]:
            times[number] = times.get(number, 0) + t
    return thing[:-1] + (times_of(list(times.items())),)


def shown_through(view, fits, many, shown):
    """What shows a fact of the seen rule as what shows it of the rule."""
    return tuple([refutation_through(view, fits + ((many,),), many + 1, part) for part in shown])


def all_shown_through(view, fits, many, shown):
    """Likewise of several facts."""
    return tuple([shown_through(view, fits, many, part) for part in shown])


def tree_through(view, fits, many, tree, leaf):
    """A tree of the seen rule as one of the rule; leaf tells it of "in" and "stays"."""

    def grown(now_fits, now, part):
        if part[0] == "never":
            return ("never", refutation_through(view, now_fits, now, part[1]))
        if part[0] == "meet":
            return meet_through(view, now_fits, now, part)
        return leaf(now_fits, now, part)

    return through(view, fits, many, tree, grown)


def meet_through(view, fits, many, tree):
    """A meeting of the seen rule: two hands are sought in the rooms of these places, then they meet."""
    meeting = view.seen_meets[tree[1]]
    ones = rooms_at(view, meeting[0])
    others = rooms_at(view, meeting[1])
    shown = shown_through(view, fits, many, tree[2][0])
    if meeting[0] == meeting[1]:
        if len(ones) == 1:
            return ("meet", view.pairs[(ones[0], ones[0])], (shown,))
        two = seek_two(view.shape, view.pairs, many + 1, ones, many)
        return ("know", ("least", hands_in(view.shape, ones, -2)), shown, two)
    if len(ones) == 1 and len(others) == 1:
        return meeting_of(view.pairs, ones[0], others[0], shown, shown_through(view, fits, many, tree[2][1]))
    both = seek_both(view.shape, view.pairs, many + 2, ones, many, others, many + 1)
    other_shown = shown_through(view, fits, many + 1, tree[2][1])
    other = ("know", ("least", hands_in(view.shape, others, -1)), other_shown, both)
    return ("know", ("least", hands_in(view.shape, ones, -1)), shown, other)
