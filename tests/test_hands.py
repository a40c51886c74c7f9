"""Hands one by one [9]."""

import itertools
import unittest

from passersby.crowds import begun, met
from passersby.errors import NoMeeting
from passersby.hands import crowd_of, hands_met, seated
from tests.samples import ALONE, MORE, ROOMY


class Hands(unittest.TestCase):
    def test_seated(self):
        self.assertEqual(seated(MORE, (2, 3)), (0, 0, 1, 1, 1))
        self.assertEqual(seated(MORE, (0, 1)), (1,))
        self.assertEqual(seated(ROOMY, (1, 2, 3)), (2, 0, 0, 2, 2, 2))
        self.assertEqual(seated(ALONE, (60,)), (0,) * 60)

    def test_crowd_of(self):
        self.assertEqual(crowd_of(ROOMY, (2, 0, 0, 2, 3)), (2, 0, 2, 1))
        self.assertEqual(crowd_of(ALONE, (0,)), (1,))
        for counts in itertools.product(range(4), repeat=3):
            if counts != (0, 0, 0):
                self.assertEqual(crowd_of(ROOMY, seated(ROOMY, counts)), begun(ROOMY, counts))

    def test_kinds(self):
        for told in (seated(MORE, (1, 2)), crowd_of(MORE, (0, 1)), hands_met(MORE, (0, 1), 0, 1),
                     hands_met(MORE, (0, 2), 0, 1)):
            self.assertIs(type(told), tuple)


class Meetings(unittest.TestCase):
    def test_one_below_the_other(self):
        self.assertEqual(hands_met(ROOMY, (0, 2), 0, 1), (3, 1))
        self.assertEqual(hands_met(ROOMY, (0, 3, 2), 0, 2), (3, 3, 1))
        self.assertEqual(hands_met(ROOMY, (2, 3, 0), 2, 0), (1, 3, 3))

    def test_one_above_the_other(self):
        self.assertEqual(hands_met(ROOMY, (2, 0), 0, 1), (1, 3))
        self.assertEqual(hands_met(ROOMY, (0, 2), 1, 0), (3, 1))
        self.assertEqual(hands_met(ROOMY, (3, 0, 1), 0, 2), (0, 0, 2))

    def test_two_in_one_room(self):
        self.assertEqual(hands_met(ROOMY, (0, 0), 0, 1), (1, 2))
        self.assertEqual(hands_met(ROOMY, (0, 0), 1, 0), (2, 1))
        self.assertEqual(hands_met(ROOMY, (0, 3, 0), 2, 0), (2, 3, 1))

    def test_two_of_whom_no_meeting_is_told(self):
        for hands in ((0, 1), (1, 0), (2, 2), (3, 3), (2, 3), (3, 2), (0, 3), (1, 2)):
            self.assertEqual(hands_met(ROOMY, hands, 0, 1), hands)
            self.assertEqual(hands_met(ROOMY, hands, 1, 0), hands)

    def test_as_the_words_tell(self):
        told = {(a, b): (c, d) for a, b, c, d in ROOMY[2]}
        for hands in itertools.product(range(4), repeat=3):
            for i, j in itertools.permutations(range(3), 2):
                p, q = hands[i], hands[j]
                expected = list(hands)
                if p <= q and (p, q) in told:
                    expected[i], expected[j] = told[(p, q)]
                if p > q and (q, p) in told:
                    expected[j], expected[i] = told[(q, p)]
                self.assertEqual(hands_met(ROOMY, hands, i, j), tuple(expected))

    def test_as_the_crowd_goes(self):
        for hands in itertools.product(range(4), repeat=3):
            for number, (a, b, c, d) in enumerate(ROOMY[2]):
                for i, j in itertools.permutations(range(3), 2):
                    if (hands[i], hands[j]) in ((a, b), (b, a)):
                        self.assertEqual(crowd_of(ROOMY, hands_met(ROOMY, hands, i, j)),
                                         met(ROOMY, crowd_of(ROOMY, hands), number))

    def test_no_two_unlike_hands(self):
        hands = (0, 0, 1)
        wrong = [(0, 0), (1, 1), (2, 2), (0, 3), (3, 0), (3, 3), (-1, 0), (0, -1), (-1, -2), (-1, 1), (4, 5),
                 (10 ** 39, 0), (0, 10 ** 39), (-10 ** 39, 0), (0, -3), (-3, 1)]
        for i, j in wrong:
            with self.assertRaises(NoMeeting, msg=(i, j)) as taken:
                hands_met(MORE, hands, i, j)
            self.assertEqual(taken.exception.place, 0)
        for i, j in ((0, 0), (0, 1), (1, 0)):
            with self.assertRaises(NoMeeting):
                hands_met(ALONE, (0,), i, j)

    def test_nothing_handed_in_is_changed(self):
        hands = (0, 0, 2)
        before = repr((ROOMY, hands))
        hands_met(ROOMY, hands, 0, 1)
        crowd_of(ROOMY, hands)
        seated(ROOMY, (1, 2, 3))
        self.assertEqual(repr((ROOMY, hands)), before)


if __name__ == "__main__":
    unittest.main()
