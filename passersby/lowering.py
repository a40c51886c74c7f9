"""Trees with fewer trees within one another: where there is only one way on, what tells so is told in its leaves."""

from passersby.views import all_shown_through
from passersby.views import fits_behind
from passersby.views import fits_from
from passersby.views import refutation_through
from passersby.views import tree_through


def deepness(thing):
    """How many trees and refutations stand within one another in one, itself counted."""
    return 1 + max([deepness(part) for part in parts_of_thing(thing)], default=0)


def parts_of_thing(thing):
    """What stands straight in a tree or refutation."""
    word = thing[0]
    if word == "know":
        return list(thing[2]) + [thing[3]]
    if word in ("in", "meet"):
        parts = []
        for shown in thing[2]:
            parts.extend(shown)
        return parts
    return [thing[1]] if word == "never" else branches_of(thing)


def branches_of(thing):
    """The parts of a split, cases or know that go on; none of others."""
    if thing[0] == "split":
        return [thing[2], thing[3]]
    if thing[0] == "cases":
        return list(thing[3])
    return [thing[3]] if thing[0] == "know" else []


def with_branches(thing, parts):
    """A split, cases or know with other parts that go on."""
    if thing[0] == "split":
        return thing[:2] + tuple(parts)
    if thing[0] == "cases":
        return thing[:3] + (tuple(parts),)
    return thing[:3] + (parts[0],)


def filled(thing, place, part):
    """A split, cases or know with another part at a place."""
    parts = branches_of(thing)
    parts[place] = part
    return with_branches(thing, parts)


def lowered(view, many, tree):
    """A tree that goes on from so many facts as one in which no tree stands within one that has no other way.

    The view is one of a rule as itself.
    """
    if len(branches_of(tree)) == 0:
        return tree
    parts = [lowered(view, many + 1, part) for part in branches_of(tree)]
    live = [place for place, part in enumerate(parts) if part[0] != "never"]
    if len(live) > 1:
        return with_branches(tree, parts)
    # What is refuted on the other ways is told as a refutation, with a hole in the place of the one way.
    told = with_branches(tree, [part[1] if part[0] == "never" else None for part in parts])
    return ("never", told) if len(live) == 0 else sunk(view, many, told, live[0], parts[live[0]])


def sunk(view, many, told, place, tree):
    """The one way, in the place of a tree that goes on from so many facts: in its leaves stands what is told.

    The way itself goes on from one fact more, the last one, which what is told has shown.
    """
    if tree[0] == "stays":
        return tree
    if tree[0] == "never":
        return ("never", filled(told, place, tree[1]))
    # What the leaves or further ways go on from stands ahead of that fact now, and not behind it.
    turned = fits_behind(fits_from(0, many) + ((many + 1,), (many,)), many + 2)
    below = moved_on(view, many, told, place)
    if tree[0] in ("in", "meet"):
        shown = [sunk_shown(view, turned, below, place, parts) for parts in tree[2]]
        return (tree[0], tree[1], tuple(shown))
    ways = [sunk(view, many + 1, below, place, refitted(view, turned, part)) for part in branches_of(tree)]
    return with_branches(tree, ways)


def sunk_shown(view, turned, below, place, shown):
    """What shows a fact, with what is told in each of its refutations."""
    return tuple([filled(below, place, refutation_through(view, turned, 0, part)) for part in shown])


def moved_on(view, many, told, place):
    """What is told behind so many facts, told behind one more."""
    behind = fits_behind(fits_from(0, many), many + 1)
    parts = branches_of(told)
    others = [refutation_through(view, behind, 0, part) for part in parts if part is not None]
    others.insert(place, None)
    if told[0] == "know":
        shown = [refutation_through(view, behind, 0, part) for part in told[2]]
        return (told[0], told[1], tuple(shown), None)
    return with_branches(told, others)


def refitted(view, fits, tree):
    """A tree of a rule that goes on from other facts, which fit."""

    def leaf(now_fits, many, part):
        if part[0] == "stays":
            return part
        return ("in", part[1], all_shown_through(view, now_fits, many, part[2]))

    return tree_through(view, fits, 0, tree, leaf)
