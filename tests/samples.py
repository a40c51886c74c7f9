"""Rules, things and askings that several tests use."""

import itertools
import random

from passersby.crowds import begun, can, met, said
from passersby.fewer import fewer
from passersby.paperchecker import stages_at
from passersby.questions import holds, is_question

MORE = (4, (0, 1), ((0, 1, 2, 3), (0, 3, 0, 2), (1, 2, 1, 3), (2, 3, 3, 3)), (True, False, True, False))

# Two in one room, a room below and one above the one told first, and rooms that tell nothing.
ROOMY = (4, (2, 0, 2), ((0, 0, 1, 2), (0, 2, 3, 1), (1, 1, 3, 3), (1, 3, 2, 0)), (False, True, True, False))

ALONE = (1, (0,), (), (True,))

# Each of three sorts falls from its room to the next by itself: of n hands, two at least, n + 1 crowds come.
THREE_LINES = (6, (0, 2, 4), ((0, 0, 0, 1), (0, 1, 1, 1), (2, 2, 2, 3), (2, 3, 3, 3), (4, 4, 4, 5), (4, 5, 5, 5)),
               (True, False, True, False, True, False))
A_THOUSAND = (9, 9, 9)
ONE_MORE = (6, 10, 12)

# All come to room 1; there some go to room 2 and back for ever, so it is never settled what is said.
ROCKING = (3, (0,), ((0, 0, 0, 1), (0, 1, 1, 1), (1, 1, 1, 2), (1, 2, 1, 1)), (True, True, False))

# Of four hands all come to room 1 or, where one in room 0 meets one in room 1, all to room 2.
FORK = (3, (0,), ((0, 0, 1, 1), (0, 1, 2, 2)), (True, True, False))


def nested(kind, depth, inner):
    """A thing within so many others of one kind."""
    thing = inner
    for layer in range(depth):
        thing = kind([thing])
    return thing


def strange_things():
    """Things of all kinds that are no rule, question, beginning or crowd."""
    return [
        None, True, False, 0, 1, -1, 7, 10 ** 39, -(10 ** 39), "", "rest", "least", "not", "0,1",
        (), [], ((),), ([],), [()], (None,), (True,), ("",), ("not",), ("least",), (0,), (-1,), (False,), (0, 0),
        (0, 0, 0, 0), (None, None, None, None), ("a", "b", "c", "d"), (True, True, True, True),
        (10 ** 39 * 10 - 1, (), (), ()), (1, 2, 3, -4), ((), (), (), ()), ([], [], [], []),
        nested(tuple, 200, 1), nested(list, 200, 1), nested(tuple, 200, ()), (nested(list, 198, "x"), 1, (), ()),
        nested_word("not", 199), nested_word("both", 199), nested_word(["not"], 100),
        tuple([0] * 1000), [1] * 1000, tuple(["not"] * 1000),
    ]


def nested_word(word, depth):
    """What looks like a question within far too many others."""
    thing = ("least", (0,), 1)
    for layer in range(depth):
        thing = (word, thing)
    return thing


def plain_questions():
    """Of three sorts: each word that stands alone, at the edges of its numbers."""
    questions = []
    for some in ((0,), (1,), (2,), (0, 1), (0, 2), (1, 2), (0, 1, 2)):
        questions.extend([("least", some, n) for n in (1, 2, 8, 9)])
        questions.extend([("rest", some, m, r) for m in (2, 3, 9) for r in (0, 1, m - 1)])
    for these, those in (((), ()), ((0,), ()), ((), (0, 2)), ((0,), (1,)), ((1,), (0, 2)), ((0, 2), (1,))):
        questions.append(("more", these, those))
    return questions


LEAF = ("least", (0,), 2)
OTHER = ("more", (1,), (0,))
THIRD = ("rest", (0, 1), 3, 1)


def deep_questions():
    """Of two sorts: one within another, down to the deepest and up to the most that may be."""
    return [
        ("not", LEAF),
        ("both", LEAF, OTHER),
        ("either", THIRD, LEAF),
        ("not", ("not", ("not", THIRD))),
        ("both", ("not", ("either", LEAF, OTHER)), THIRD),
        ("either", OTHER, ("both", LEAF, ("not", THIRD))),
        ("both", ("both", LEAF, OTHER), ("either", THIRD, LEAF)),
        ("either", ("not", ("both", LEAF, THIRD)), ("not", OTHER)),
    ]


EIGHT = ("both", ("both", LEAF, OTHER), ("either", THIRD, ("not", LEAF)))
FIVE_DEEP = ("not", ("not", ("not", ("not", LEAF))))


def changed_at(things, place, thing):
    """A tuple with another thing at a place."""
    return things[:place] + (thing,) + things[place + 1:]


def closure(rule, crowd):
    """All crowds that come from a crowd, by the plain words of [8] and [14]."""
    come, rim = {crowd}, [crowd]
    while rim:
        here = rim.pop()
        for a, b, c, d in rule[2]:
            there = list(here)
            there[a] -= 1
            there[b] -= 1
            if min(there) < 0:
                continue
            there[c] += 1
            there[d] += 1
            if tuple(there) not in come:
                come.add(tuple(there))
                rim.append(tuple(there))
    return come


def words_in(rule, crowds):
    """What hands say in any of the crowds, as a set of truths."""
    return {rule[3][room] for crowd in crowds for room, many in enumerate(crowd) if many}


def plainly_answers(rule, counts, truth):
    """By the plain words of [4]: from each crowd that comes one comes that is settled to the truth."""
    crowd = tuple(sum(many for start, many in zip(rule[1], counts) if start == room) for room in range(rule[0]))
    come = closure(rule, crowd)
    settled = {here for here in come if words_in(rule, closure(rule, here)) == {truth}}
    return all(closure(rule, here) & settled for here in come)


def beginnings_of(sorts, most):
    """All beginnings of at most so many hands, by how many, then as Python sorts them."""
    told = [counts for counts in itertools.product(range(most + 1), repeat=sorts) if 1 <= sum(counts) <= most]
    return sorted(told, key=lambda counts: (sum(counts), counts))


def bent_rules(many, rooms, sorts):
    """Rules of all kinds, always the same ones."""
    dice = random.Random(1000 * rooms + sorts)
    return [bent_rule(dice, rooms, sorts) for place in range(many)]


def bent_rule(dice, rooms, sorts):
    """A rule by dice."""
    meets = []
    often = dice.choice((0.3, 0.6, 0.9))
    for pair in itertools.combinations_with_replacement(range(rooms), 2):
        turned = (dice.randrange(rooms), dice.randrange(rooms))
        if dice.random() < often and turned != pair and turned[::-1] != pair:
            meets.append(pair + turned)
    starts = tuple(dice.randrange(rooms) for sort in range(sorts))
    return (rooms, starts, tuple(meets), tuple(dice.random() < 0.5 for room in range(rooms)))


def all_bent_rules():
    """Small rules of one to three sorts."""
    told = [ROCKING, MORE]
    for rooms, sorts, many in ((1, 1, 2), (2, 1, 25), (2, 2, 25), (3, 1, 30), (3, 2, 30), (4, 2, 15), (3, 3, 5)):
        told.extend(bent_rules(many, rooms, sorts))
    return told


def question_of(sorts):
    """A question that is now so, now otherwise."""
    return ("least", (0,), 2) if sorts == 1 else ("more", (0,), (1,))


# Papers written by hand. Facts are numbered: those of a stage from 0 on, then what a tree or a refutation goes on with.

def form(number, ins, ofs=(0,)):
    return (number, tuple(ins), tuple(ofs))


def least(number, ins, ofs=(0,)):
    return ("least", form(number, ins, ofs))


def same(number, ins, ofs=(0,)):
    return ("same", form(number, ins, ofs))


def rest(m, number, ins, ofs=(0,)):
    return ("rest", form(number, ins, ofs), m)


def by(*pairs):
    """The sum of facts (i, t)."""
    return ("sum", tuple(pairs))


def ones(*numbers):
    """The sum of facts, each once."""
    return by(*[(number, 1) for number in numbers])


def modulo(m, *pairs):
    return ("rest", m, tuple(pairs))


STAYS = ("stays",)


def alone_paper(n):
    """Of the one room that says True: whether there are at least n, for few n."""
    end = ("end", (least(-n, (0,), (1,)),), True, (), (ones(0, 1),), ())
    return (ALONE, ("least", (0,), n), n, (("in", 0, ((ones(0, 2),),)), (end,)))


# Two hands begin to turn, then all do: whether there are at least two.
TWO = (2, (0,), ((0, 0, 0, 1), (0, 1, 1, 1)), (False, True))


def two_on(n):
    """The stage on of two hands at least, of n in the beginning."""
    one = ("split", form(-1, (1, 0)), ("meet", 1, ((ones(3, 4),), (ones(2, 4),))),
           ("in", 1, ((ones(3, 4), ones(4)), (ones(1, 4),))))
    # Of n hands, at least two, none in room 1: with at most one in room 0 they would not be n.
    other = ("meet", 0, ((ones(0, 1, 2, 3),),))
    tree = ("split", form(-1, (0, 1)), one, other)
    return ("on", (same(0, (1, 1), (-1,)), least(-n, (0, 0), (1,))), (form(0, (1, 0)),), ((ones(2),),), tree, (STAYS, STAYS))


def two_yes(n):
    """All have turned, of n in the beginning."""
    never = ("never", by((0, -1), (2, 1)))
    return ("end", (same(0, (1, 0)), least(-n, (0, 0), (1,))), True, (never[1],), (ones(1, 2),), (never, never))


def two_no():
    """One alone stays."""
    facts = (same(0, (0, 1)), same(0, (1, 1), (-1,)), least(1, (0, 0), (-1,)))
    closed = (("never", by((1, -1), (2, 1), (3, 1))), ("never", by((0, -1), (4, 1))))
    return ("end", facts, False, (by((0, -1), (3, 1)),), (ones(2, 3),), closed)


def two_paper():
    """Of two rooms: whether there are at least two, for few 1."""
    all_there = (by((1, -1), (2, -1), (4, 1)), by((1, 1), (2, 1), (4, 1)))
    none_turned = (by((2, -1), (4, 1)), by((2, 1), (4, 1)))
    begin = ("split", form(-2, (0, 0), (1,)), ("in", 0, (all_there, (ones(3, 4),))),
             ("in", 2, (none_turned, all_there, (ones(3, 4),))))
    return (TWO, ("least", (0,), 2), 1, (begin, (two_on(2), two_yes(2), two_no())))


def few_paper(n):
    """Of the same rule: whether there are at least n, for few n, from 2 on; none says False at last."""
    all_there = (by((1, -1), (2, -1), (3, 1)), by((1, 1), (2, 1), (3, 1)))
    begin = ("in", 0, (all_there, (ones(0, 3),)))
    return (TWO, ("least", (0,), n), n, (begin, (two_on(n), two_yes(n))))


# Hands in room 0 go out by twos; one that is left turns others to room 2, else those in room 1 turn them back.
ODD = (3, (0,), ((0, 0, 1, 1), (0, 1, 0, 2), (1, 2, 1, 1)), (True, False, True))


def odd_on():
    """An odd number is in room 0."""
    # With none in room 0 the number would be even.
    some = ("know", same(0, (1, 0, 0)), (ones(3, 4), ones(4)), modulo(2, (0, 1), (4, -1)))
    shown = ((ones(2, 5), ones(3, 5)), (ones(4, 5),), (modulo(2, (1, 1), (5, -1)),))
    turn = ("split", form(-1, (0, 1, 0)), ("meet", 1, ((ones(3, 5),), (ones(4, 5),))), ("in", 2, shown))
    tree = ("split", form(-2, (1, 0, 0)), ("meet", 0, ((ones(2, 3),),)), ("know", least(-1, (1, 0, 0)), (some,), turn))
    facts = (rest(2, -1, (1, 0, 0)), rest(2, -1, (0, 0, 0), (1,)))
    ranks = (form(0, (1, 0, 0)), form(0, (0, 1, 0)))
    return ("on", facts, ranks, ((ones(2),), (ones(2),)), tree, (STAYS, STAYS, STAYS))


def even_on():
    """An even number is in room 0."""
    one_more = ("know", same(-1, (1, 0, 0)), (ones(4, 5), ones(3, 5)), modulo(2, (0, 1), (5, -1)))
    turn = ("split", form(-1, (0, 0, 1)), ("meet", 2, ((ones(2, 3, 5),), (ones(4, 5),))),
            ("in", 3, ((ones(3, 4, 5),), (modulo(2, (1, 1), (5, -1)),))))
    tree = ("split", form(-1, (1, 0, 0)), ("meet", 0, ((one_more,),)), turn)
    facts = (rest(2, 0, (1, 0, 0)), rest(2, 0, (0, 0, 0), (1,)), least(-1, (1, 1, 0)))
    ranks = (form(0, (1, 0, 0)), form(0, (0, 0, 1)))
    left = ("in", 1, ((modulo(2, (0, 1), (5, -1)),), (modulo(2, (1, 1), (5, -1)),), (ones(3, 4, 5),)))
    return ("on", facts, ranks, ((ones(3),), (ones(3),)), tree, (STAYS, left, STAYS))


def odd_paper():
    """Of three rooms: whether there is an odd number, for few 1."""
    yes = ("end", (same(-1, (1, 0, 0)), least(0, (0, -1, 0)), rest(2, -1, (0, 0, 0), (1,))), True, (ones(1, 3),),
           (modulo(2, (2, 1), (3, -1)),), (("never", by((0, -1), (3, 1))), ("never", ones(1, 4)), ("never", ones(1, 3))))
    no = ("end", (least(0, (-1, 0, -1)), rest(2, 0, (0, 0, 0), (1,))), False, (ones(0, 2), ones(0, 2)),
          (modulo(2, (1, 1), (2, -1)),), (("never", ones(0, 2)), ("never", ones(0, 2)), ("never", ones(0, 3))))
    parity = (modulo(2, (1, -1), (4, -1), (5, 1)),)
    asked = (modulo(2, (4, 1), (5, -1)),)
    begin = ("cases", form(0, (0, 0, 0), (1,)), 2,
             (("in", 1, (parity, asked, (ones(0, 1, 2, 5),))), ("in", 0, (parity, asked))))
    return (ODD, ("rest", (0,), 2, 1), 1, (begin, (odd_on(), even_on(), yes, no)))


# Hands of sort 0 stay in room 0 and tell those of sort 1, who come from room 3 by room 2 to room 1.
TELLING = (4, (0, 3), ((0, 2, 0, 1), (0, 3, 0, 2), (1, 2, 1, 1), (1, 3, 1, 2)), (True, True, False, False))


def telling_paper():
    """Of four rooms and two sorts: whether there is any of sort 0, for few 1."""
    some, none, nought = least(-1, (0,) * 4, (1, 0)), least(0, (0,) * 4, (-1, 0)), (0, 0)
    two = ("split", form(-1, (0, 0, 1, 0), nought), ("meet", 0, ((by((0, 1), (1, 1), (4, 1)),), (ones(3, 4),))),
           ("in", 1, ((ones(1, 4),), (ones(2, 3, 4),))))
    tree = ("split", form(-1, (0, 0, 0, 1), nought), ("meet", 1, ((ones(0, 1, 3),), (ones(2, 3),))), two)
    ranks = (form(0, (0, 0, 0, 1), nought), form(0, (0, 0, 1, 0), nought))
    on = ("on", (same(0, (1, 0, 0, 0), (-1, 0)), some), ranks, ((ones(2),), (ones(2),)), tree, (STAYS,) * 4)
    nobody = ("never", ones(1, 3))
    yes = ("end", (some, least(0, (0, 0, -1, -1), nought)), True, (ones(1, 2),) * 2, (ones(0, 2),), (nobody,) * 4)
    nobody = ("never", ones(1, 2))
    no = ("end", (none, least(0, (-1, -1, 0, 0), nought)), False, (ones(1, 2),) * 2, (ones(0, 2),), (nobody,) * 4)
    begin = ("split", some[1], ("in", 0, ((by((1, -1), (6, 1)), by((1, 1), (6, 1))), (ones(5, 6),))),
             ("in", 2, ((ones(5, 6),), (by((1, -1), (2, -1), (5, 1), (6, 1)),))))
    return (TELLING, ("more", (0,), ()), 1, (begin, (on, yes, no)))


def hand_papers():
    """Tuples (rule, question, few, paper) of one to four rooms, few from 1 to 9; those of few for no lesser one."""
    return ([alone_paper(n) for n in (1, 2, 5, 9)] + [two_paper()] + [few_paper(n) for n in (2, 3, 8, 9)]
            + [odd_paper(), telling_paper()])


def inner_parts(thing):
    """Where refutations and trees stand in one: tuples (path, more), more by how many more facts it goes on from."""
    word = thing[0]
    if word == "never":
        return [((1,), 0)]
    if word == "split":
        return [((2,), 1), ((3,), 1)]
    if word == "cases":
        return [((3, k), 1) for k in range(len(thing[3]))]
    if word == "know":
        return [((2, k), 1) for k in range(len(thing[2]))] + [((3,), 1)]
    if word in ("in", "meet"):
        return [((2, k, i), 1) for k, shown in enumerate(thing[2]) for i in range(len(shown))]
    return []


def part_at(thing, path):
    for place in path:
        thing = thing[place]
    return thing


def with_part(thing, path, part):
    """A thing with another part at a path."""
    if not path:
        return part
    return changed_at(thing, path[0], with_part(thing[path[0]], path[1:], part))


def pushed(thing, many):
    """A tree or refutation that goes on from one more fact behind the many that it went on from."""
    if thing[0] in ("sum", "rest"):
        return thing[:-1] + (tuple((i + (i >= many), t) for i, t in thing[-1]),)
    for path, more in inner_parts(thing):
        thing = with_part(thing, path, pushed(part_at(thing, path), many))
    return thing


def height(thing):
    """How many trees and refutations stand within one another in it, itself counted."""
    return 1 + max([height(part_at(thing, path)) for path, more in inner_parts(thing)], default=0)


WRAPS = ("split one", "split other", "cases first", "cases last", "know", "shown")


def wrapped(kind, rooms, sorts, many, thing, is_tree):
    """A tree or refutation with the given one in it, and as right as that one, where it goes on from so many facts."""
    nought = (0, (0,) * rooms, (0,) * sorts)
    below = (-1, (0,) * rooms, (0,) * sorts)
    inner = pushed(thing, many)
    leaf = ones(many)
    not_divided = modulo(2, (many, 1))
    other = ("never", leaf) if is_tree else leaf
    if kind == "split one":
        return ("split", nought, inner, other)
    if kind == "split other":
        return ("split", below, other, inner)
    if kind.startswith("cases"):
        gone = ("never", not_divided) if is_tree else not_divided
        return ("cases", nought, 2, (inner, gone)) if kind == "cases first" else ("cases", (1,) + nought[1:], 2, (gone, inner))
    return ("know", ("least", nought), (leaf,), inner)


def roots_of(rule, question_rows, paper):
    """Where the first trees and refutations of a paper stand: tuples (path, many, is_tree)."""
    begin, stages = paper
    roots = [((0,), 1 + rule[0], True)]
    for number, stage in enumerate(stages):
        facts = len(stage[1])
        if stage[0] == "on":
            roots.extend(((1, number, 3, k, 0), facts + 1, False) for k in range(len(stage[3])))
            roots.append(((1, number, 4), facts, True))
        else:
            roots.extend(((1, number, 3, k), facts + 1, False) for k in range(len(stage[3])))
            rows = question_rows(not stage[2])
            roots.extend(((1, number, 4, k), facts + len(row), False) for k, row in enumerate(rows))
        for k, meeting in enumerate(rule[2]):
            roots.append(((1, number, 5, k), facts + (1 if meeting[0] == meeting[1] else 2), True))
    return roots


def all_parts(roots, paper):
    """All trees and refutations of a paper: tuples (path, many, is_tree, depth)."""
    told, rim = [], [(path, many, is_tree, 1) for path, many, is_tree in roots]
    while rim:
        path, many, is_tree, depth = rim.pop()
        told.append((path, many, is_tree, depth))
        thing = part_at(paper, path)
        for inner, more in inner_parts(thing):
            tree = is_tree and thing[0] in ("split", "cases", "know") and inner[0] != (2 if thing[0] == "know" else 1)
            rim.append((path + inner, many + more, tree, depth + 1))
    return told


def spots_in(thing, path=()):
    """The paths of all things in a nested tuple, itself too."""
    told = [path]
    if isinstance(thing, tuple):
        for place, part in enumerate(thing):
            told.extend(spots_in(part, path + (place,)))
    return told


def bent(dice, thing):
    """A nested tuple with one thing otherwise, at a place by dice."""
    path = dice.choice(spots_in(thing))
    part = part_at(thing, path)
    if isinstance(part, bool):
        new = not part
    elif isinstance(part, int):
        new = part + dice.choice((-2, -1, 1, 2)) if dice.random() < 0.8 else -part
    elif isinstance(part, str):
        new = dice.choice(("least", "same", "rest", "sum", "split", "know", "in", "stays", "never", "meet", "on", "end"))
    elif not part:
        new = (0,)
    else:
        place = dice.randrange(len(part))
        new = dice.choice((part[:place] + part[place + 1:], part[:place] + part[place:place + 1] + part[place:],
                           part[::-1], part[place:] + part[:place], part[place]))
    return with_part(thing, path, new)


def bounds_of(paper):
    """Of a paper: how many stages, the most facts, the most ranks, the most trees and refutations in one another."""
    begin, stages = paper
    firsts = [begin]
    for stage in stages:
        firsts.extend(stage[5])
        if stage[0] == "on":
            firsts.append(stage[4])
            firsts.extend(part for low in stage[3] for part in low)
        else:
            firsts.extend(stage[3] + stage[4])
    ranks = [len(stage[2]) for stage in stages if stage[0] == "on"]
    return len(stages), max(len(stage[1]) for stage in stages), max(ranks, default=0), max(map(height, firsts))


def walks_by(test, rule, question, paper, counts, steps=150, many=3):
    """Walks by dice from a beginning: stages are left for greater ones alone, and in an end all say the truth."""
    for seed in range(many):
        dice = random.Random(seed)
        crowd = begun(rule, counts)
        here = stages_at(paper, crowd, counts)
        test.assertTrue(here, counts)
        for step in range(steps):
            numbers = can(rule, crowd)
            for number in here:
                if paper[1][number][0] == "end":
                    test.assertEqual(paper[1][number][2], holds(question, counts))
                    test.assertEqual(said(rule, crowd), "yes" if paper[1][number][2] else "no")
            if not numbers:
                break
            crowd = met(rule, crowd, dice.choice(numbers))
            there = stages_at(paper, crowd, counts)
            for number in here:
                later = [s for s in there if s >= number] if paper[1][number][0] == "on" else [s for s in there if s == number]
                test.assertTrue(later, (counts, crowd))
            here = there


def grown_rule(dice, rule, rooms):
    """A rule of so many rooms that made fewer is the given one; None where dice did not come to one."""
    places = list(range(rule[0])) + [dice.choice([None] + list(range(rule[0]))) for more in range(rooms - rule[0])]
    dice.shuffle(places)
    # Parts are numbered by their least rooms.
    order = list(dict.fromkeys(place for place in places if place is not None))
    places = tuple(None if place is None else order.index(place) for place in places)
    at = [[room for room in range(rooms) if places[room] == place] for place in range(rule[0])]
    turns = {meeting[:2]: meeting[2:] for meeting in rule[2]}
    meets = []
    for x, y in itertools.combinations_with_replacement(range(rooms), 2):
        if places[x] is None or places[y] is None:
            turned = [dice.randrange(rooms), dice.randrange(rooms)]
        else:
            pair = tuple(sorted((places[x], places[y])))
            turned = [dice.choice(at[place]) for place in turns.get(pair, pair)]
        dice.shuffle(turned)
        if sorted(turned) != [x, y]:
            meets.append((x, y) + tuple(turned))
    starts = tuple(dice.choice(at[start]) for start in rule[1])
    says = tuple(dice.random() < 0.5 if place is None else rule[3][place] for place in places)
    grown = (rooms, starts, tuple(meets), says)
    return grown if fewer(grown) == (rule, places) else None


def grown_rules(seed, rule, rooms, many):
    """Several such rules."""
    dice = random.Random(seed)
    tried = [grown_rule(dice, rule, rooms) for again in range(60 * many)]
    return [grown for grown in tried if grown][:many]


def deepened(given, rows, deep, dice):
    """A paper with all its first trees and refutations wrapped till so many stand within one another."""
    rule, question, few, paper = given
    for path, many, is_tree in roots_of(rule, rows, paper):
        thing = part_at(paper, path)
        while height(thing) < deep:
            thing = wrapped(dice.choice(WRAPS), rule[0], len(rule[1]), many, thing, is_tree)
        paper = with_part(paper, path, thing)
    return (rule, question, few, paper)


def with_facts(given, rows, most, fact, shown):
    """A paper with a fact told again and again behind those of each stage; shown tells what shows it behind so many.

    Where the fact is None each stage tells its own first one again.
    """
    rule, question, few, paper = given
    more = [most - len(stage[1]) for stage in paper[1]]
    for path, many, is_tree in roots_of(rule, rows, paper):
        thing = more_shown(part_at(paper, path), many, more, shown)
        if path[0] == 1:
            own = len(paper[1][path[1]][1])
            for again in range(more[path[1]]):
                thing = pushed(thing, own)
        paper = with_part(paper, path, thing)
    stages = tuple(changed_at(stage, 1, stage[1] + (fact or stage[1][0],) * many) for stage, many in zip(paper[1], more))
    return (rule, question, few, (paper[0], stages))


def more_shown(thing, many, more, shown):
    """A tree that shows so many more facts of each stage that it leads to."""
    if thing[0] == "in":
        return thing[:2] + (thing[2] + (shown(many) if shown else thing[2][0],) * more[thing[1]],)
    if thing[0] in ("split", "cases", "know"):
        for path, push in inner_parts(thing):
            if path[0] == 3 or thing[0] == "split":
                thing = with_part(thing, path, more_shown(part_at(thing, path), many + push, more, shown))
    return thing


def with_stages(given, most):
    """A paper with more stages behind its own: its first end again, each with its own number where it leads to itself."""
    rule, question, few, (begin, stages) = given
    number = [stage[0] for stage in stages].index("end")
    more = []
    for place in range(len(stages), most):
        closed = tuple(changed_at(tree, 1, place) if tree[0] == "in" else tree for tree in stages[number][5])
        more.append(changed_at(stages[number], 5, closed))
    return (rule, question, few, (begin, stages + tuple(more)))


def drawn_question(dice, sorts):
    """A question by dice, of at most seven and at most four deep."""
    while True:
        question = drawn_part(dice, sorts, 1)
        if is_question(sorts, question):
            return question


def drawn_part(dice, sorts, deep):
    word = dice.choice(("least", "more", "rest") + ("both", "either", "not") * (2 if deep < 4 else 0))
    if word in ("both", "either"):
        return (word, drawn_part(dice, sorts, deep + 1), drawn_part(dice, sorts, deep + 1))
    if word == "not":
        return (word, drawn_part(dice, sorts, deep + 1))
    if word == "more":
        sides = [dice.randrange(3) for sort in range(sorts)]
        return (word,) + tuple(tuple(sort for sort in range(sorts) if sides[sort] == side) for side in (1, 2))
    some = tuple(sorted(dice.sample(range(sorts), dice.randrange(1, sorts + 1))))
    if word == "least":
        return (word, some, dice.choice((1, 1, 1, 2, 2, 3, 5, 9)))
    m = dice.choice((2, 2, 3, 4, 9))
    return (word, some, m, dice.randrange(m))
