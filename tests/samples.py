"""Rules, things and askings that several tests use."""

import itertools
import random

MORE = (4, (0, 1), ((0, 1, 2, 3), (0, 3, 0, 2), (1, 2, 1, 3), (2, 3, 3, 3)), (True, False, True, False))

# Two in one room, a room below and one above the one told first, and rooms that tell nothing.
ROOMY = (4, (2, 0, 2), ((0, 0, 1, 2), (0, 2, 3, 1), (1, 1, 3, 3), (1, 3, 2, 0)), (False, True, True, False))

ALONE = (1, (0,), (), (True,))

# Each of three sorts falls from its room to the next by itself: of n hands, two at least, n + 1 crowds come.
THREE_LINES = (6, (0, 2, 4), ((0, 0, 0, 1), (0, 1, 1, 1), (2, 2, 2, 3), (2, 3, 3, 3), (4, 4, 4, 5), (4, 5, 5, 5)),
               (True, False, True, False, True, False))
A_THOUSAND = (9, 9, 9)
ONE_MORE = (6, 10, 12)

# All come to room 1; there some go to room 2 and back for ever, so it is never settled what is said.
ROCKING = (3, (0,), ((0, 0, 0, 1), (0, 1, 1, 1), (1, 1, 1, 2), (1, 2, 1, 1)), (True, True, False))

# Of four hands all come to room 1 or, where one in room 0 meets one in room 1, all to room 2.
FORK = (3, (0,), ((0, 0, 1, 1), (0, 1, 2, 2)), (True, True, False))


def nested(kind, depth, inner):
    """A thing within so many others of one kind."""
    thing = inner
    for layer in range(depth):
        thing = kind([thing])
    return thing


def strange_things():
    """Things of all kinds that are no rule, question, beginning or crowd."""
    return [
        None, True, False, 0, 1, -1, 7, 10 ** 39, -(10 ** 39), "", "rest", "least", "not", "0,1",
        (), [], ((),), ([],), [()], (None,), (True,), ("",), ("not",), ("least",), (0,), (-1,), (False,), (0, 0),
        (0, 0, 0, 0), (None, None, None, None), ("a", "b", "c", "d"), (True, True, True, True),
        (10 ** 39 * 10 - 1, (), (), ()), (1, 2, 3, -4), ((), (), (), ()), ([], [], [], []),
        nested(tuple, 200, 1), nested(list, 200, 1), nested(tuple, 200, ()), (nested(list, 198, "x"), 1, (), ()),
        nested_word("not", 199), nested_word("both", 199), nested_word(["not"], 100),
        tuple([0] * 1000), [1] * 1000, tuple(["not"] * 1000),
    ]


def nested_word(word, depth):
    """What looks like a question within far too many others."""
    thing = ("least", (0,), 1)
    for layer in range(depth):
        thing = (word, thing)
    return thing


def plain_questions():
    """Of three sorts: each word that stands alone, at the edges of its numbers."""
    questions = []
    for some in ((0,), (1,), (2,), (0, 1), (0, 2), (1, 2), (0, 1, 2)):
        questions.extend([("least", some, n) for n in (1, 2, 8, 9)])
        questions.extend([("rest", some, m, r) for m in (2, 3, 9) for r in (0, 1, m - 1)])
    for these, those in (((), ()), ((0,), ()), ((), (0, 2)), ((0,), (1,)), ((1,), (0, 2)), ((0, 2), (1,))):
        questions.append(("more", these, those))
    return questions


LEAF = ("least", (0,), 2)
OTHER = ("more", (1,), (0,))
THIRD = ("rest", (0, 1), 3, 1)


def deep_questions():
    """Of two sorts: one within another, down to the deepest and up to the most that may be."""
    return [
        ("not", LEAF),
        ("both", LEAF, OTHER),
        ("either", THIRD, LEAF),
        ("not", ("not", ("not", THIRD))),
        ("both", ("not", ("either", LEAF, OTHER)), THIRD),
        ("either", OTHER, ("both", LEAF, ("not", THIRD))),
        ("both", ("both", LEAF, OTHER), ("either", THIRD, LEAF)),
        ("either", ("not", ("both", LEAF, THIRD)), ("not", OTHER)),
    ]


EIGHT = ("both", ("both", LEAF, OTHER), ("either", THIRD, ("not", LEAF)))
FIVE_DEEP = ("not", ("not", ("not", ("not", LEAF))))


def changed_at(things, place, thing):
    """A tuple with another thing at a place."""
    return things[:place] + (thing,) + things[place + 1:]


def closure(rule, crowd):
    """All crowds that come from a crowd, by the plain words of [8] and [14]."""
    come, rim = {crowd}, [crowd]
    while rim:
        here = rim.pop()
        for a, b, c, d in rule[2]:
            there = list(here)
            there[a] -= 1
            there[b] -= 1
            if min(there) < 0:
                continue
            there[c] += 1
            there[d] += 1
            if tuple(there) not in come:
                come.add(tuple(there))
                rim.append(tuple(there))
    return come


def words_in(rule, crowds):
    """What hands say in any of the crowds, as a set of truths."""
    return {rule[3][room] for crowd in crowds for room, many in enumerate(crowd) if many}


def plainly_answers(rule, counts, truth):
    """By the plain words of [4]: from each crowd that comes one comes that is settled to the truth."""
    crowd = tuple(sum(many for start, many in zip(rule[1], counts) if start == room) for room in range(rule[0]))
    come = closure(rule, crowd)
    settled = {here for here in come if words_in(rule, closure(rule, here)) == {truth}}
    return all(closure(rule, here) & settled for here in come)


def beginnings_of(sorts, most):
    """All beginnings of at most so many hands, by how many, then as Python sorts them."""
    told = [counts for counts in itertools.product(range(most + 1), repeat=sorts) if 1 <= sum(counts) <= most]
    return sorted(told, key=lambda counts: (sum(counts), counts))


def bent_rules(many, rooms, sorts):
    """Rules of all kinds, always the same ones."""
    dice = random.Random(1000 * rooms + sorts)
    return [bent_rule(dice, rooms, sorts) for place in range(many)]


def bent_rule(dice, rooms, sorts):
    """A rule by dice."""
    meets = []
    often = dice.choice((0.3, 0.6, 0.9))
    for pair in itertools.combinations_with_replacement(range(rooms), 2):
        turned = (dice.randrange(rooms), dice.randrange(rooms))
        if dice.random() < often and turned != pair and turned[::-1] != pair:
            meets.append(pair + turned)
    starts = tuple(dice.randrange(rooms) for sort in range(sorts))
    return (rooms, starts, tuple(meets), tuple(dice.random() < 0.5 for room in range(rooms)))


def all_bent_rules():
    """Small rules of one to three sorts."""
    told = [ROCKING, MORE]
    for rooms, sorts, many in ((1, 1, 2), (2, 1, 25), (2, 2, 25), (3, 1, 30), (3, 2, 30), (4, 2, 15), (3, 3, 5)):
        told.extend(bent_rules(many, rooms, sorts))
    return told


def question_of(sorts):
    """A question that is now so, now otherwise."""
    return ("least", (0,), 2) if sorts == 1 else ("more", (0,), (1,))
