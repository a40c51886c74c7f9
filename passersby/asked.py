"""The rows of facts by which a question has a truth [29]."""

from passersby.forms import plus


def rows_of(rooms, sorts, question, truth):
    """The rows of facts by which a question has a truth: it has it just where all facts of some row hold."""
    word = question[0]
    if word == "not":
        return rows_of(rooms, sorts, question[1], not truth)
    if word in ("both", "either"):
        one = rows_of(rooms, sorts, question[1], truth)
        other = rows_of(rooms, sorts, question[2], truth)
        # By "both" the truth is had where both have it, the other truth where either has that; by "either" turned.
        return crossed(one, other) if truth == (word == "both") else one + other
    if word == "least":
        return [(least_fact(rooms, sorts, question, truth),)]
    if word == "more":
        return [(more_fact(rooms, sorts, question, truth),)]
    return rest_rows(rooms, sorts, question, truth)


def crossed(one, other):
    """Each row of the one with each of the other behind it."""
    rows = []
    for ahead in one:
        rows.extend([ahead + behind for behind in other])
    return rows


def hands_form(rooms, sorts, these, those):
    """The form of the hands of these sorts less those of those."""
    ofs = [0] * sorts
    for sort in these:
        ofs[sort] = 1
    for sort in those:
        ofs[sort] = -1
    return (0, (0,) * rooms, tuple(ofs))


def least_fact(rooms, sorts, question, truth):
    """The fact by which at least so many hands are of some sorts, or not."""
    if truth:
        return ("least", plus(hands_form(rooms, sorts, question[1], ()), -question[2]))
    return ("least", plus(hands_form(rooms, sorts, (), question[1]), question[2] - 1))


def more_fact(rooms, sorts, question, truth):
    """The fact by which more hands are of these sorts than of those, or not."""
    if truth:
        return ("least", plus(hands_form(rooms, sorts, question[1], question[2]), -1))
    return ("least", hands_form(rooms, sorts, question[2], question[1]))


def rest_rows(rooms, sorts, question, truth):
    """A row for each rest by which the hands of some sorts leave the asked one, or another one."""
    form = hands_form(rooms, sorts, question[1], ())
    rests = [k for k in range(question[2]) if (k == question[3]) == truth]
    return [(("rest", plus(form, -k), question[2]),) for k in rests]
