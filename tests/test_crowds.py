"""Crowds and meetings [2, 8]."""

import itertools
import unittest

from passersby.crowds import begun, can, is_crowd, joined, met, said, walked
from passersby.errors import NoMeeting
from tests.samples import ALONE, MORE, ROOMY, strange_things


class Crowds(unittest.TestCase):
    def test_crowds(self):
        for crowd in ((1, 0, 0, 0), (0, 0, 0, 1), (3, 4, 5, 6), (10 ** 39, 0, 0, 0), (1000001, 0, 0, 2)):
            self.assertIs(is_crowd(MORE, crowd), True, crowd)
        self.assertIs(is_crowd(ALONE, (1,)), True)

    def test_things_that_are_none(self):
        for thing in ((0, 0, 0, 0), (1, 0, 0), (1, 0, 0, 0, 0), (1, 0, 0, -1), (-1, 1, 1, 1), (1, 0, 0, -10 ** 39),
                      [1, 0, 0, 0], (True, 0, 0, 0), (1, 0, 0, False), (1, 0, 0, None), (1, 0, 0, "0"), (1, 0, 0, (0,)),
                      "1,0,0,0", None, 4, True):
            self.assertIs(is_crowd(MORE, thing), False, thing)
        for thing in ((0,), (-1,), (True,), (1, 1), (), [1], 1):
            self.assertIs(is_crowd(ALONE, thing), False, thing)

    def test_any_thing(self):
        for rule in (MORE, ROOMY, ALONE):
            for thing in strange_things():
                self.assertIs(is_crowd(rule, thing), False, str(thing)[:100])

    def test_begun(self):
        self.assertEqual(begun(MORE, (3, 5)), (3, 5, 0, 0))
        self.assertEqual(begun(MORE, (0, 1)), (0, 1, 0, 0))
        self.assertEqual(begun(ROOMY, (1, 20, 300)), (20, 0, 301, 0))
        self.assertEqual(begun(ROOMY, (1000000, 1000000, 1000000)), (1000000, 0, 2000000, 0))
        self.assertEqual(begun((2, (0, 0, 0, 1), (), (True, True)), (1, 2, 3, 4)), (6, 4))

    def test_joined(self):
        self.assertEqual(joined((1, 0, 3), (10, 20, 0)), (11, 20, 3))
        self.assertEqual(joined((10 ** 39,), (10 ** 39,)), (2 * 10 ** 39,))
        crowd = joined((1, 2), (3, 4))
        self.assertEqual(joined(crowd, crowd), (8, 12))

    def test_kinds(self):
        for told in (begun(MORE, (1, 2)), joined((1,), (2,)), met(MORE, (1, 1, 0, 0), 0),
                     walked(MORE, (1, 1, 0, 0), []), walked(MORE, (1, 1, 0, 0), [0]), walked(MORE, (1, 1, 0, 0), ())):
            self.assertIs(type(told), tuple)
        self.assertIs(type(can(MORE, (1, 1, 0, 0))), list)


class Meetings(unittest.TestCase):
    def test_can(self):
        self.assertEqual(can(MORE, (1, 1, 1, 1)), [0, 1, 2, 3])
        self.assertEqual(can(MORE, (1, 1, 0, 0)), [0])
        self.assertEqual(can(MORE, (5, 0, 5, 0)), [])
        self.assertEqual(can(MORE, (0, 0, 1, 1)), [3])
        self.assertEqual(can(ALONE, (60,)), [])

    def test_two_in_one_room(self):
        self.assertEqual(can(ROOMY, (1, 0, 0, 0)), [])
        self.assertEqual(can(ROOMY, (2, 0, 0, 0)), [0])
        self.assertEqual(can(ROOMY, (3, 1, 0, 0)), [0])
        self.assertEqual(can(ROOMY, (0, 2, 0, 0)), [2])
        self.assertEqual(can(ROOMY, (1, 1, 1, 1)), [1, 3])
        self.assertEqual(can(ROOMY, (2, 2, 2, 2)), [0, 1, 2, 3])

    def test_met(self):
        self.assertEqual(met(MORE, (2, 3, 0, 0), 0), (1, 2, 1, 1))
        self.assertEqual(met(MORE, (2, 0, 0, 3), 1), (2, 0, 1, 2))
        self.assertEqual(met(MORE, (0, 0, 1, 1), 3), (0, 0, 0, 2))
        self.assertEqual(met(ROOMY, (2, 0, 0, 0), 0), (0, 1, 1, 0))
        self.assertEqual(met(ROOMY, (0, 5, 0, 0), 2), (0, 3, 0, 2))
        self.assertEqual(met(ROOMY, (10 ** 39, 0, 0, 0), 0), (10 ** 39 - 2, 1, 1, 0))

    def test_met_of_one_by_one(self):
        for crowd in itertools.product(range(4), repeat=4):
            for number, (a, b, c, d) in enumerate(ROOMY[2]):
                rooms = [room for room, many in enumerate(crowd) for hand in range(many)]
                possible = a in rooms
                if possible:
                    rooms.remove(a)
                    possible = b in rooms
                self.assertEqual(number in can(ROOMY, crowd), possible)
                if possible:
                    rooms.remove(b)
                    rooms += [c, d]
                    self.assertEqual(met(ROOMY, crowd, number), tuple(rooms.count(room) for room in range(4)))
                else:
                    self.refused(0, met, ROOMY, crowd, number)

    def refused(self, place, asked, *things):
        with self.assertRaises(NoMeeting) as taken:
            asked(*things)
        self.assertEqual(taken.exception.place, place)

    def test_no_meeting(self):
        crowd = (1, 1, 1, 1)
        for number in (-1, -2, -4, -5, 4, 5, 100, 10 ** 39, -10 ** 39):
            self.refused(0, met, MORE, crowd, number)
        for number in (0, 1, -1):
            self.refused(0, met, ALONE, (60,), number)
        self.refused(0, met, MORE, (5, 0, 0, 0), 0)
        self.refused(0, met, MORE, (0, 5, 0, 0), 0)
        self.refused(0, met, ROOMY, (1, 0, 0, 0), 0)

    def test_walked(self):
        self.assertEqual(walked(MORE, (2, 1, 0, 0), [0, 1]), (1, 0, 2, 0))
        self.assertEqual(walked(MORE, (2, 1, 0, 0), (0, 1)), (1, 0, 2, 0))
        self.assertEqual(walked(MORE, (2, 1, 0, 0), []), (2, 1, 0, 0))
        self.assertEqual(walked(MORE, (2, 1, 0, 0), ()), (2, 1, 0, 0))
        self.assertEqual(walked(ROOMY, (2, 0, 0, 0), [0]), (0, 1, 1, 0))

    def test_walked_first_place_that_can_not_be(self):
        for kind in (list, tuple):
            self.refused(0, walked, MORE, (2, 1, 0, 0), kind([3]))
            self.refused(1, walked, MORE, (2, 1, 0, 0), kind([0, 0]))
            self.refused(2, walked, MORE, (2, 1, 0, 0), kind([0, 1, 1]))
            self.refused(2, walked, MORE, (2, 1, 0, 0), kind([0, 1, -1, 0]))
            self.refused(1, walked, MORE, (2, 1, 0, 0), kind([0, 4, 1]))
            self.refused(1, walked, MORE, (2, 1, 0, 0), kind([0, 10 ** 39]))
            self.refused(0, walked, MORE, (2, 1, 0, 0), kind([-4, 0]))
            self.refused(50, walked, MORE, (60, 50, 0, 0), kind([0] * 51))

    def test_said(self):
        self.assertEqual(said(MORE, (1, 0, 0, 0)), "yes")
        self.assertEqual(said(MORE, (1, 0, 7, 0)), "yes")
        self.assertEqual(said(MORE, (0, 1, 0, 0)), "no")
        self.assertEqual(said(MORE, (0, 2, 0, 9)), "no")
        self.assertEqual(said(MORE, (1, 1, 0, 0)), "both")
        self.assertEqual(said(MORE, (0, 0, 1, 10 ** 39)), "both")
        self.assertEqual(said(ALONE, (3,)), "yes")
        self.assertEqual(said((1, (0,), (), (False,)), (3,)), "no")


class KeptApart(unittest.TestCase):
    def test_nothing_handed_in_is_changed(self):
        numbers = [0, 1]
        crowd = (2, 1, 0, 0)
        before = repr((MORE, crowd, numbers))
        walked(MORE, crowd, numbers)
        with self.assertRaises(NoMeeting):
            walked(MORE, crowd, numbers + [9])
        met(MORE, crowd, 0)
        can(MORE, crowd)
        self.assertEqual(repr((MORE, crowd, numbers)), before)

    def test_a_told_list_is_the_askers_own(self):
        crowd = (1, 1, 1, 1)
        told = can(MORE, crowd)
        told.append(9)
        told[0] = 8
        self.assertEqual(can(MORE, crowd), [0, 1, 2, 3])
        self.assertIsNot(can(MORE, crowd), can(MORE, crowd))

    def test_a_walked_list_may_change_later(self):
        numbers = [0]
        told = walked(MORE, (2, 1, 0, 0), numbers)
        numbers.append(1)
        self.assertEqual(told, (1, 0, 1, 1))


if __name__ == "__main__":
    unittest.main()
