"""What papers are put together from: sums, facts that are kept, and trees that find hands which meet.

Facts are told by their numbers among those known; many is how many are known, so the number of the next one.
"""


def hands_in(shape, some, number):
    """The form of the hands in some rooms, with a number; shape tells how many rooms and sorts there are."""
    ins = [1 if room in some else 0 for room in range(shape[0])]
    return (number, tuple(ins), (0,) * shape[1])


def hands_out(shape, some, number):
    """The form of a number less the hands in some rooms."""
    ins = [-1 if room in some else 0 for room in range(shape[0])]
    return (number, tuple(ins), (0,) * shape[1])


def times_of(pairs):
    """Pairs (i, t) as a refutation tells them: rising, and none of 0 times."""
    return tuple(sorted([pair for pair in pairs if pair[1] != 0]))


def sum_of(pairs):
    """The refutation by which the facts of pairs (i, t) come to a number below 0."""
    return ("sum", times_of(pairs))


def rest_of(m, pairs):
    """The refutation by which m would divide what the facts of pairs (i, t) come to."""
    return ("rest", m, times_of(pairs))


def each(numbers, times):
    """Pairs of the facts of these numbers, each so many times."""
    return [(number, times) for number in numbers]


def shown_by(pairs, many):
    """What shows a least fact by a sum of other facts."""
    return (sum_of(pairs + [(many, 1)]),)


def kept_by(fact, number, many):
    """What shows a fact that is known by that number; or one that no change has lost, as "stays" tells."""
    if fact[0] == "least":
        return shown_by([(number, 1)], many)
    if fact[0] == "same":
        return (sum_of([(number, -1), (many, 1)]), sum_of([(number, 1), (many, 1)]))
    return (rest_of(fact[2], [(number, 1), (many, -1)]),) * (fact[2] - 1)


def meeting_of(pairs, x, y, shown_x, shown_y):
    """The tree of the meeting of a hand in room x and one in another room y, each with what shows that it is there."""
    if x < y:
        return ("meet", pairs[(x, y)], (shown_x, shown_y))
    return ("meet", pairs[(y, x)], (shown_y, shown_x))


def seek_one(shape, many, some, reasons, found):
    """A tree that finds a room with a hand, where facts come to at least one in some rooms.

    reasons are the numbers of these facts: together they say that the hands in the rooms, less 1, are 0 or more. So
    they do for the one room that is left, of which found tells how the tree goes on.
    """
    if len(some) == 1:
        return found(many, some[0], reasons)
    half = len(some) // 2
    one = seek_one(shape, many + 1, some[:half], (many,), found)
    other = seek_one(shape, many + 1, some[half:], reasons + (many,), found)
    return ("split", hands_in(shape, some[:half], -1), one, other)


def seek_both(shape, pairs, many, ones, reason, others, other_reason):
    """A tree in which a hand in the ones meets one in the others, which all tell a meeting; a reason for either."""

    def found_one(known, x, reasons):
        def found_other(now, y, more):
            return meeting_of(pairs, x, y, shown_by(each(reasons, 1), now), shown_by(each(more, 1), now))

        return seek_one(shape, known, others, (other_reason,), found_other)

    return seek_one(shape, many, ones, (reason,), found_one)


def seek_two(shape, pairs, many, some, reason):
    """A tree in which two hands in some rooms meet; by the reason the hands there, less 2, are 0 or more."""
    if len(some) == 1:
        return ("meet", pairs[(some[0], some[0])], (shown_by([(reason, 1)], many),))

    def found(known, x, reasons):
        two = ("meet", pairs[(x, x)], (shown_by([(known, 1)], known + 1),))
        others = [room for room in some if room != x]

        def found_other(now, y, more):
            return meeting_of(pairs, x, y, shown_by(each(reasons, 1), now), shown_by(each(more, 1), now))

        # With at most one hand in x, of two in all at least one is in the others.
        other = seek_one(shape, known + 1, others, (reason, known), found_other)
        return ("split", hands_in(shape, [x], -2), two, other)

    return seek_one(shape, many, some, (reason,), found)


def never_in(number, some, meeting, many):
    """The tree of closed of a meeting that needs a hand in some rooms, where a fact tells that there is none."""
    place = 0 if meeting[0] in some else 1
    return ("never", sum_of([(number, 1), (many + place, 1)]))
