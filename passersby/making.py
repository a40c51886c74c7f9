"""Rules made for questions [12]."""

from passersby.beside import beside
from passersby.questions import parts_of


def rooms_for(question):
    """How many rooms the made rule of a question has, or would have."""
    word = question[0]
    if word == "least":
        return question[2] + 1
    if word == "more":
        return 4
    if word == "rest":
        return question[2] + 2
    rooms = 1
    for part in question[1:]:
        rooms *= rooms_for(part)
    return rooms


def made(question, sorts):
    """The made rule of a question for so many sorts, or TooMany."""
    word = question[0]
    if word == "least":
        return made_least(question[1], question[2], sorts)
    if word == "more":
        return made_more(question[1], question[2], sorts)
    if word == "rest":
        return made_rest(question[1], question[2], question[3], sorts)
    if parts_of(word) == 1:
        return turned(made(question[1], sorts))
    return beside(made(question[1], sorts), made(question[2], sorts), word)


def turned(rule):
    """A rule of which each room says the other truth."""
    return (rule[0], rule[1], rule[2], tuple([not truth for truth in rule[3]]))


def starts_of(some, sorts):
    """A start for each sort: room 1 of some, else 0."""
    return tuple([1 if sort in some else 0 for sort in range(sorts)])


def made_least(some, n, sorts):
    """The made rule of whether at least n hands are of some sorts."""
    meets = []
    for a in range(n):
        for b in range(a, n):
            # A hand in room 0 brings nothing: it turns by one in room n alone.
            if a > 0:
                meets.append((a, b, 0, a + b) if a + b < n else (a, b, n, n))
        meets.append((a, n, n, n))
    says = [room == n for room in range(n + 1)]
    return (n + 1, starts_of(some, sorts), tuple(meets), tuple(says))


def made_more(these, those, sorts):
    """The made rule of whether more hands are of these sorts than of those."""
    starts = []
    for sort in range(sorts):
        if sort in these:
            starts.append(0)
        else:
            starts.append(1 if sort in those else 3)
    meets = ((0, 1, 2, 3), (0, 3, 0, 2), (1, 2, 1, 3), (2, 3, 3, 3))
    return (4, tuple(starts), meets, (True, False, True, False))


def made_rest(some, m, r, sorts):
    """The made rule of whether the hands of some sorts leave the rest r by m."""
    words = [m + 1 if room == r else m for room in range(m)]
    meets = []
    for a in range(m):
        for b in range(a, m):
            rest = (a + b) % m
            meets.append((a, b, rest, words[rest]))
        for b in (m, m + 1):
            if b != words[a]:
                meets.append((a, b, a, words[a]))
    says = [room in (r, m + 1) for room in range(m + 2)]
    return (m + 2, starts_of(some, sorts), tuple(meets), tuple(says))
