"""Papers of the made rules of "least" and "more" [12, 31].

Facts are told by their numbers: those of the stage from 0 on, then what a tree has come to know on its way.
"""

from passersby.asked import rows_of
from passersby.crowds import pairs_of
from passersby.making import made
from passersby.seeking import hands_in
from passersby.seeking import hands_out
from passersby.seeking import kept_by
from passersby.seeking import never_in
from passersby.seeking import seek_both
from passersby.seeking import seek_two
from passersby.seeking import shown_by
from passersby.seeking import sum_of


def least_paper(question, sorts):
    """A paper of the made rule of a question "least": a stage on, an end of True, an end of False."""
    n = question[2]
    rule = made(question, sorts)
    # What the rooms of all hands come to. It never falls, and while it is below n it stays as it began.
    weight = (0, tuple(range(n + 1)), tuple([-1 if sort in question[1] else 0 for sort in range(sorts)]))
    enough = rows_of(n + 1, sorts, question, True)[0][0]
    lack = rows_of(n + 1, sorts, question, False)[0][0]
    stages = (least_on(rule, n, weight, enough), least_yes(rule, n, enough), least_no(rule, n, weight, lack))
    return (least_begin(n, enough), stages)


def least_begin(n, enough):
    """The tree of begin: by whether there are enough."""
    known = n + 2
    now = known + 1
    # Room a's hands, a times, are the weight: none but those of the asked sorts begin above room 0.
    over = [(1 + a, a) for a in range(n + 1)]
    under = [(1 + a, -a) for a in range(n + 1)]
    held = shown_by([(known, 1)], now)
    one = ("in", 0, (shown_by(over, now), held))
    other = ("in", 2, ((sum_of(under + [(now, 1)]), sum_of(over + [(now, 1)])), held))
    return ("split", enough[1], one, other)


def least_on(rule, n, weight, enough):
    """The stage on where there are enough. A hand counts twice in the rank till it is in room 0, once there."""
    sorts = len(rule[1])
    rank = (0, (1,) + (2,) * (n - 1) + (0,), (0,) * sorts)
    tree = least_tree((n + 1, sorts), pairs_of(rule), n)
    return ("on", (("least", weight), enough), (rank,), (shown_by([], 2),), tree, (("stays",),) * len(rule[2]))


def least_tree(shape, pairs, n):
    """The tree of the stage on: where a hand is in room n others come to it, else two hands below it meet."""
    below = list(range(n))
    done = ("in", 1, (shown_by([(1, 1)], 4), shown_by([(3, 1)], 4)))
    one = ("split", hands_in(shape, below, -1), seek_both(shape, pairs, 4, below, 3, [n], 2), done)
    if n == 1:
        other = ("never", sum_of([(0, 1), (1, 1), (2, 1)]))
    else:
        # One hand alone, below room n, would not weigh n.
        two = (sum_of([(0, 1), (1, 1), (2, n), (3, n - 1)]),)
        other = ("know", ("least", hands_in(shape, below[1:], -2)), two, seek_two(shape, pairs, 4, below[1:], 3))
    return ("split", hands_in(shape, [n], -1), one, other)


def least_yes(rule, n, enough):
    """The end of True: no hand is below room n."""
    below = list(range(n))
    none = ("least", hands_out((n + 1, len(rule[1])), below, 0))
    says = (sum_of([(1, 1), (2, 1)]),) * n
    asks = (sum_of([(0, 1), (2, 1)]),)
    return ("end", (enough, none), True, says, asks, tuple([never_in(1, below, meeting, 2) for meeting in rule[2]]))


def least_no(rule, n, weight, lack):
    """The end of False: the weight is as it began, below n."""
    says = (sum_of([(0, -1), (1, 1), (2, n)]),)
    asks = (sum_of([(1, 1), (2, 1)]),)
    return ("end", (("same", weight), lack), False, says, asks, tuple([lack_closed(meeting, n) for meeting in rule[2]]))


def lack_closed(meeting, n):
    """The tree of closed of a meeting in the end of False: it leaves the weight as it is, or can't be."""
    a = meeting[0]
    b = meeting[1]
    if a + b < n:
        return ("stays",)
    hands = [(2, a)] if a == b else [(2, a), (3, b)]
    return ("never", sum_of([(0, -1), (1, 1)] + hands))


def more_paper(question, sorts):
    """A paper of the made rule of a question "more": for either truth a stage on, then for either an end."""
    over = rows_of(4, sorts, question, True)[0][0]
    under = rows_of(4, sorts, question, False)[0][0]
    # The hands in room 0 less those in room 1 stay as they began.
    ahead = ("same", (0, (1, -1, 0, 0), under[1][2]))
    rule = made(question, sorts)
    ends = (more_end(rule, True, over), more_end(rule, False, under))
    return (more_begin(over), (over_on(sorts, ahead, over), under_on(sorts, ahead, under)) + ends)


def more_begin(over):
    """The tree of begin: by whether more are of these sorts than of those."""
    kept = (sum_of([(1, -1), (2, 1), (6, 1)]), sum_of([(1, 1), (2, -1), (6, 1)]))
    held = shown_by([(5, 1)], 6)
    teller = shown_by([(0, 1), (1, 1), (2, 1), (4, 1)], 6)
    return ("split", over[1], ("in", 0, (kept, held)), ("in", 1, (kept, held, teller)))


def over_on(sorts, ahead, over):
    """The stage on where more are of these sorts: the hands in room 1 go, then room 0 turns those in room 3."""
    low = shown_by([], 2)
    tree = over_tree((4, sorts))
    return ("on", (ahead, over), room_ranks(sorts, 1, 3), (low, low), tree, (("stays",),) * 4)


def over_tree(shape):
    """Its tree."""
    cancel = ("meet", 0, (shown_by([(0, 1), (1, 1), (2, 1)], 3), shown_by([(2, 1)], 3)))
    turn = ("meet", 1, (shown_by([(0, 1), (1, 1)], 4), shown_by([(3, 1)], 4)))
    done = ("in", 2, (shown_by([(1, 1)], 4), shown_by([(2, 1), (3, 1)], 4)))
    return ("split", hands_in(shape, [1], -1), cancel, ("split", hands_in(shape, [3], -1), turn, done))


def under_on(sorts, ahead, under):
    """The stage on where no more are of these sorts: the hands in room 0 go, then room 1 or 3 turns those in room 2."""
    # Where no hand is in room 0 or 1, one has to be in room 3 to turn the others.
    teller = ("least", hands_in((4, sorts), [0, 1, 3], -1))
    low = shown_by([], 3)
    # Of two hands that could turn others one is left behind the meeting.
    left = ("in", 1, (kept_by(ahead, 0, 5), kept_by(under, 1, 5), shown_by([(3, 1), (4, 1)], 5)))
    closed = (left, left, ("stays",), ("stays",))
    return ("on", (ahead, under, teller), room_ranks(sorts, 0, 2), (low, low), under_tree((4, sorts)), closed)


def under_tree(shape):
    """Its tree."""
    cancel = ("meet", 0, (shown_by([(3, 1)], 4), shown_by([(0, -1), (1, 1), (3, 1)], 4)))
    strong = ("meet", 2, (shown_by([(5, 1)], 6), shown_by([(4, 1)], 6)))
    weak = ("meet", 3, (shown_by([(4, 1)], 6), shown_by([(2, 1), (3, 1), (5, 1)], 6)))
    done = ("in", 3, (shown_by([(1, 1)], 5), shown_by([(3, 1), (4, 1)], 5)))
    turn = ("split", hands_in(shape, [1], -1), strong, weak)
    return ("split", hands_in(shape, [0], -1), cancel, ("split", hands_in(shape, [2], -1), turn, done))


def room_ranks(sorts, one, other):
    """The hands in one room, then those in another one, as ranks."""
    return (hands_in((4, sorts), [one], 0), hands_in((4, sorts), [other], 0))


def more_end(rule, truth, held):
    """The end of a truth: no hand is in a room that says the other one, and each meeting needs such a hand."""
    empty = [room for room in range(4) if rule[3][room] != truth]
    none = ("least", hands_out((4, len(rule[1])), empty, 0))
    says = (sum_of([(1, 1), (2, 1)]),) * 2
    asks = (sum_of([(0, 1), (2, 1)]),)
    return ("end", (held, none), truth, says, asks, tuple([never_in(1, empty, meeting, 2) for meeting in rule[2]]))
