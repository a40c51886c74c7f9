"""Two rules put side by side: a room for each pair of their rooms [13]."""

from passersby.errors import TooMany
from passersby.hands import turned_from
from passersby.hands import turns_of
from passersby.rules import MOST_ROOMS


def beside(one, other, word):
    """The rule of pairs, that says True where both rooms do or, by the word "either", one of them; or TooMany."""
    many = other[0]
    rooms = one[0] * many
    if rooms > MOST_ROOMS:
        raise TooMany()
    starts = [i * many + j for i, j in zip(one[1], other[1])]
    says = [paired_truth(one[3][pair // many], other[3][pair % many], word) for pair in range(rooms)]
    return (rooms, tuple(starts), tuple(paired_meets(one, other)), tuple(says))


def paired_truth(one, other, word):
    """What a pair says, of what its rooms say."""
    if word == "both":
        return one and other
    return one or other


def paired_meets(one, other):
    """The meetings of pairs, in order."""
    many = other[0]
    rooms = one[0] * many
    ones = turns_of(one)
    others = turns_of(other)
    meets = []
    for low in range(rooms):
        for high in range(low, rooms):
            left = turned_from(ones, low // many, high // many)
            right = turned_from(others, low % many, high % many)
            c = left[0] * many + right[0]
            d = left[1] * many + right[1]
            # A told meeting always changes its rooms, so where both pairs stay neither rule tells one.
            if (c, d) != (low, high):
                meets.append((low, high, c, d))
    return meets
