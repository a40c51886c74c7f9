"""Crowds that come, and ways to them [14]."""

import itertools
import unittest

from passersby.coming import come, way_to
from passersby.crowds import can, met, walked
from passersby.errors import TooMany
from passersby.making import made
from tests.samples import ALONE, MORE, ROOMY

# From n hands in room 0, two at least, come n + 1 crowds.
FALLING = (3, (0,), ((0, 0, 0, 1), (0, 1, 1, 1)), (True, False, True))


def levels(rule, crowd):
    """Each crowd that comes, with how many meetings a shortest way has."""
    far = {crowd: 0}
    rim = {crowd}
    while rim:
        rim = {met(rule, here, number) for here in rim for number in can(rule, here)} - set(far)
        far.update({there: max(far.values()) + 1 for there in rim})
    return far


def samples():
    """Rules with crowds of them."""
    pairs = [(MORE, crowd) for crowd in ((2, 1, 0, 0), (3, 3, 0, 0), (1, 2, 1, 2), (0, 0, 1, 0))]
    pairs += [(ROOMY, crowd) for crowd in ((4, 0, 0, 0), (1, 1, 1, 1), (0, 3, 0, 2), (2, 0, 2, 1), (0, 0, 0, 5))]
    pairs += [(ALONE, (60,)), (FALLING, (5, 0, 0)), (FALLING, (0, 0, 3))]
    return pairs + [(made(("rest", (0,), 3, 1), 1), (0, 4, 0, 0, 0))]


class Come(unittest.TestCase):
    def test_all_that_come_sorted(self):
        for rule, crowd in samples():
            told = come(rule, crowd)
            self.assertEqual(told, sorted(levels(rule, crowd)))
            self.assertIn(crowd, told)
            self.assertEqual(len(told), len(set(told)))
            self.assertIs(type(told), list)
            self.assertEqual({type(there) for there in told}, {tuple})

    def test_small_ones(self):
        self.assertEqual(come(ALONE, (3,)), [(3,)])
        self.assertEqual(come(MORE, (1, 1, 0, 0)), [(0, 0, 0, 2), (0, 0, 1, 1), (1, 1, 0, 0)])
        self.assertEqual(come(FALLING, (3, 0, 0)), [(0, 3, 0), (1, 2, 0), (2, 1, 0), (3, 0, 0)])
        self.assertEqual(come(ROOMY, (1, 0, 0, 0)), [(1, 0, 0, 0)])

    def test_limits(self):
        for rule, crowd in samples():
            many = len(levels(rule, crowd))
            self.assertEqual(len(come(rule, crowd, many)), many)
            self.assertEqual(len(come(rule, crowd, many + 1)), many)
            if many > 1:
                for limit in (1, many - 1):
                    with self.assertRaises(TooMany):
                        come(rule, crowd, limit)

    def test_a_thousand_where_it_is_left_out(self):
        for hands, many in ((998, 999), (999, 1000), (1000, 1001)):
            crowd = (hands, 0, 0)
            self.assertEqual(len(come(FALLING, crowd, 3000)), many)
            if many <= 1000:
                self.assertEqual(len(come(FALLING, crowd)), many)
                self.assertEqual(way_to(FALLING, crowd, crowd), [])
            else:
                for asked in (lambda: come(FALLING, crowd), lambda: way_to(FALLING, crowd, crowd)):
                    with self.assertRaises(TooMany):
                        asked()

    def test_sixty_hands_and_the_greatest_limit(self):
        rule = made(("both", ("least", (0,), 4), ("least", (1,), 7)), 2)
        with self.assertRaises(TooMany):
            come(rule, (0, 30) + (0,) * 6 + (30,) + (0,) * 31, 3000)


class Ways(unittest.TestCase):
    def test_shortest(self):
        for rule, crowd in samples():
            for goal, far in levels(rule, crowd).items():
                way = way_to(rule, crowd, goal)
                self.assertIs(type(way), list)
                self.assertEqual(len(way), far)
                self.assertEqual(walked(rule, crowd, way), goal)

    def test_to_the_crowd_itself(self):
        self.assertEqual(way_to(MORE, (2, 1, 0, 0), (2, 1, 0, 0)), [])
        self.assertEqual(way_to(ALONE, (1,), (1,), 1), [])

    def test_a_goal_that_does_not_come(self):
        for goal in itertools.product(range(4), repeat=4):
            if sum(goal) == 3:
                comes = goal in levels(MORE, (2, 1, 0, 0))
                self.assertEqual(way_to(MORE, (2, 1, 0, 0), goal) is not None, comes)
        self.assertIsNone(way_to(FALLING, (0, 3, 0), (3, 0, 0)))
        self.assertIsNone(way_to(FALLING, (3, 0, 0), (0, 0, 3)))

    def test_too_many_whatever_the_goal(self):
        crowd = (4, 0, 0)
        goals = [crowd, (3, 1, 0), (0, 4, 0), (0, 0, 4)]
        for goal in goals:
            for limit in (1, 2, 4):
                with self.assertRaises(TooMany):
                    way_to(FALLING, crowd, goal, limit)
            way = way_to(FALLING, crowd, goal, 5)
            self.assertEqual(way is None, goal == (0, 0, 4))

    def test_one_way_alone(self):
        self.assertEqual(way_to(MORE, (2, 1, 0, 0), (1, 0, 2, 0)), [0, 1])


class KeptApart(unittest.TestCase):
    def test_told_lists_are_the_askers_own(self):
        crowd, goal = (2, 1, 0, 0), (1, 0, 2, 0)
        before = repr((MORE, crowd, goal))
        told, way = come(MORE, crowd), way_to(MORE, crowd, goal)
        told.clear()
        way.append(7)
        self.assertEqual(len(come(MORE, crowd)), len(levels(MORE, crowd)))
        self.assertEqual(way_to(MORE, crowd, goal), [0, 1])
        self.assertEqual(repr((MORE, crowd, goal)), before)
        empty = way_to(MORE, crowd, crowd)
        empty.append(1)
        self.assertEqual(way_to(MORE, crowd, crowd), [])


if __name__ == "__main__":
    unittest.main()
