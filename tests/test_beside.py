"""Two rules side by side [13]."""

import itertools
import unittest

from passersby.beside import beside
from passersby.errors import TooMany
from passersby.hands import hands_met
from passersby.rules import is_rule
from tests.samples import ALONE, MORE, ROOMY

# One meeting of two rooms, one of two hands in one room; the second leads its hands apart.
ONE = (2, (0, 1), ((0, 1, 1, 1),), (False, True))
OTHER = (2, (1, 0), ((0, 0, 0, 1),), (True, False))
# Its meeting tells unlike rooms apart, so that turning by the wrong one shows.
APART = (3, (0, 2), ((0, 1, 2, 1), (1, 2, 0, 1)), (True, False, True))


def plain_rooms(rooms, starts):
    return (rooms, starts, (), (True,) * rooms)


class Beside(unittest.TestCase):
    def test_small_ones(self):
        rule = beside(ONE, OTHER, "both")
        self.assertEqual(rule, (4, (1, 2), (
            (0, 0, 0, 1),  # both hands in one pair, the other rule alone
            (0, 2, 2, 3),  # both rules tell
            (0, 3, 2, 3),  # the one alone
            (1, 2, 3, 2),
            (1, 3, 3, 3),
            (2, 2, 2, 3),
        ), (False, False, True, False)))
        self.assertEqual(beside(ONE, OTHER, "either"), rule[:3] + ((True, False, True, True),))

    def test_the_greater_room_in_the_other_rule(self):
        one = plain_rooms(2, (0, 1))
        other = (2, (1, 0), ((0, 1, 0, 0),), (True, True))
        self.assertEqual(beside(one, other, "both")[2], ((0, 1, 0, 0), (0, 3, 0, 2), (1, 2, 0, 2), (2, 3, 2, 2)))
        other = (3, (1, 0), ((0, 1, 2, 0),), (True,) * 3)
        # In the other rule rooms 1 and 0 meet as (0, 1, 2, 0): the one in 1 turns to 0, the one in 0 to 2.
        self.assertIn((1, 3, 0, 5), beside(one, other, "both")[2])
        self.assertIn((0, 4, 2, 3), beside(one, other, "both")[2])

    def test_two_pairs_with_one_room_alike(self):
        one = (2, (0, 1), ((0, 0, 0, 1),), (True, True))
        other = (2, (0, 1), ((0, 1, 1, 1),), (True, True))
        # Rooms 0 and 1 are the pairs (0, 0) and (0, 1): two of room 0 in the one rule.
        self.assertIn((0, 1, 1, 3), beside(one, other, "both")[2])
        # Rooms 0 and 2 are the pairs (0, 0) and (1, 0): no meeting is told.
        self.assertNotIn((0, 2), [meeting[:2] for meeting in beside(one, other, "both")[2]])

    def test_as_the_words_tell(self):
        for one, other in itertools.product((ONE, OTHER, APART, MORE, ALONE_OF_TWO), repeat=2):
            for word in ("both", "either"):
                self.assertEqual(beside(one, other, word), self.told(one, other, word))
                self.assertIs(is_rule(beside(one, other, word)), True)

    def told(self, one, other, word):
        """The same by hands: each pair as two rooms, met in both rules."""
        pairs = list(itertools.product(range(one[0]), range(other[0])))
        meets = []
        for low, (i, j) in enumerate(pairs):
            for high, (k, l) in enumerate(pairs):
                left, right = hands_met(one, (i, k), 0, 1), hands_met(other, (j, l), 0, 1)
                telling = (min(i, k), max(i, k)) in [meeting[:2] for meeting in one[2]]
                telling = telling or (min(j, l), max(j, l)) in [meeting[:2] for meeting in other[2]]
                if low <= high and telling:
                    meets.append((low, high, pairs.index((left[0], right[0])), pairs.index((left[1], right[1]))))
        starts = tuple(pairs.index(pair) for pair in zip(one[1], other[1]))
        joining = all if word == "both" else any
        says = tuple(joining((one[3][i], other[3][j])) for i, j in pairs)
        return (len(pairs), starts, tuple(meets), says)

    def test_three_sorts(self):
        rule = beside(ROOMY, plain_rooms(3, (1, 2, 0)), "either")
        self.assertEqual(rule[1], (7, 2, 6))
        self.assertEqual(len(rule[3]), 12)

    def test_too_many(self):
        for left, right in ((5, 8), (8, 5), (40, 1), (1, 40), (6, 6), (4, 10)):
            rule = beside(plain_rooms(left, (0,)), plain_rooms(right, (0,)), "both")
            self.assertEqual(rule, (left * right, (0,), (), (True,) * (left * right)))
        for left, right in ((41, 1), (6, 7), (7, 6), (21, 2), (2, 21), (40, 2), (40, 40), (9, 5)):
            for word in ("both", "either"):
                with self.assertRaises(TooMany):
                    beside(plain_rooms(left, (0,)), plain_rooms(right, (0,)), word)

    def test_nothing_handed_in_is_changed(self):
        before = repr((ONE, OTHER))
        beside(ONE, OTHER, "both")
        self.assertEqual(repr((ONE, OTHER)), before)

    def test_alone(self):
        one = (3, (1,), ((0, 1, 2, 2),), (True, False, True))
        self.assertEqual(beside(one, ALONE, "both"), one)
        self.assertEqual(beside(ALONE, one, "both"), one)
        self.assertEqual(beside(ALONE, one, "either"), one[:3] + ((True, True, True),))


ALONE_OF_TWO = (1, (0, 0), (), (False,))


if __name__ == "__main__":
    unittest.main()
