"""Rules, things and askings that several tests use."""

MORE = (4, (0, 1), ((0, 1, 2, 3), (0, 3, 0, 2), (1, 2, 1, 3), (2, 3, 3, 3)), (True, False, True, False))

# Two in one room, a room below and one above the one told first, and rooms that tell nothing.
ROOMY = (4, (2, 0, 2), ((0, 0, 1, 2), (0, 2, 3, 1), (1, 1, 3, 3), (1, 3, 2, 0)), (False, True, True, False))

ALONE = (1, (0,), (), (True,))


def nested(kind, depth, inner):
    """A thing within so many others of one kind."""
    thing = inner
    for layer in range(depth):
        thing = kind([thing])
    return thing


def strange_things():
    """Things of all kinds that are no rule, question, beginning or crowd."""
    return [
        None, True, False, 0, 1, -1, 7, 10 ** 39, -(10 ** 39), "", "rest", "least", "not", "0,1",
        (), [], ((),), ([],), [()], (None,), (True,), ("",), ("not",), ("least",), (0,), (-1,), (False,), (0, 0),
        (0, 0, 0, 0), (None, None, None, None), ("a", "b", "c", "d"), (True, True, True, True),
        (10 ** 39 * 10 - 1, (), (), ()), (1, 2, 3, -4), ((), (), (), ()), ([], [], [], []),
        nested(tuple, 200, 1), nested(list, 200, 1), nested(tuple, 200, ()), (nested(list, 198, "x"), 1, (), ()),
        nested_word("not", 199), nested_word("both", 199), nested_word(["not"], 100),
        tuple([0] * 1000), [1] * 1000, tuple(["not"] * 1000),
    ]


def nested_word(word, depth):
    """What looks like a question within far too many others."""
    thing = ("least", (0,), 1)
    for layer in range(depth):
        thing = (word, thing)
    return thing


def plain_questions():
    """Of three sorts: each word that stands alone, at the edges of its numbers."""
    questions = []
    for some in ((0,), (1,), (2,), (0, 1), (0, 2), (1, 2), (0, 1, 2)):
        questions.extend([("least", some, n) for n in (1, 2, 8, 9)])
        questions.extend([("rest", some, m, r) for m in (2, 3, 9) for r in (0, 1, m - 1)])
    for these, those in (((), ()), ((0,), ()), ((), (0, 2)), ((0,), (1,)), ((1,), (0, 2)), ((0, 2), (1,))):
        questions.append(("more", these, those))
    return questions


LEAF = ("least", (0,), 2)
OTHER = ("more", (1,), (0,))
THIRD = ("rest", (0, 1), 3, 1)


def deep_questions():
    """Of two sorts: one within another, down to the deepest and up to the most that may be."""
    return [
        ("not", LEAF),
        ("both", LEAF, OTHER),
        ("either", THIRD, LEAF),
        ("not", ("not", ("not", THIRD))),
        ("both", ("not", ("either", LEAF, OTHER)), THIRD),
        ("either", OTHER, ("both", LEAF, ("not", THIRD))),
        ("both", ("both", LEAF, OTHER), ("either", THIRD, LEAF)),
        ("either", ("not", ("both", LEAF, THIRD)), ("not", OTHER)),
    ]


EIGHT = ("both", ("both", LEAF, OTHER), ("either", THIRD, ("not", LEAF)))
FIVE_DEEP = ("not", ("not", ("not", ("not", LEAF))))


def changed_at(things, place, thing):
    """A tuple with another thing at a place."""
    return things[:place] + (thing,) + things[place + 1:]
