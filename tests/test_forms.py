"""Forms, their values, and how meetings move them [23]."""

import itertools
import unittest

from passersby.crowds import can, met
from passersby.forms import change_by, is_form, moved, value_at
from tests.samples import MORE, ROOMY, changed_at, nested, strange_things

BOUND = 10 ** 15
FORM = (3, (1, -2, 0, 5), (7, -1))


class IsForm(unittest.TestCase):
    def told(self, thing, rooms=4, sorts=2):
        answer = is_form(rooms, sorts, thing)
        self.assertIs(type(answer), bool)
        return answer

    def test_forms(self):
        for form in (FORM, (0, (0,) * 4, (0, 0)), (BOUND, (BOUND,) * 4, (-BOUND, BOUND)), (-BOUND, (-BOUND,) * 4, (0, 0))):
            self.assertIs(self.told(form), True)
        self.assertIs(self.told((1, (2,), (3,)), 1, 1), True)
        self.assertIs(self.told((1, (2,) * 40, (3,) * 4), 40, 4), True)

    def test_each_bound(self):
        for number, right in ((-BOUND - 1, False), (-BOUND, True), (-BOUND + 1, True), (BOUND - 1, True), (BOUND, True),
                              (BOUND + 1, False), (10 ** 39, False), (-(10 ** 39), False)):
            self.assertIs(self.told((number,) + FORM[1:]), right)
            for place in range(4):
                self.assertIs(self.told((3, changed_at(FORM[1], place, number), FORM[2])), right)
            for place in range(2):
                self.assertIs(self.told((3, FORM[1], changed_at(FORM[2], place, number))), right)

    def test_how_many(self):
        for rooms, sorts in itertools.product(range(1, 7), range(1, 5)):
            self.assertIs(self.told(FORM, rooms, sorts), (rooms, sorts) == (4, 2))
        for thing in (FORM[:2], FORM + ((),), FORM[1:], (3, FORM[2], FORM[1]), (3, (1, -2, 0), (5, 7, -1)),
                      (3, FORM[1] + (0,), FORM[2]), (3, FORM[1], FORM[2] + (0,)), (3, (), ()), (3, FORM[1], ())):
            self.assertIs(self.told(thing), False)

    def test_of_another_kind(self):
        for thing in (list(FORM), (3, list(FORM[1]), FORM[2]), (3, FORM[1], list(FORM[2])), ((3,), FORM[1], FORM[2]),
                      (True, FORM[1], FORM[2]), (None, FORM[1], FORM[2]), ("3", FORM[1], FORM[2])):
            self.assertIs(self.told(thing), False)
        for other in (True, False, None, "1", (1,), [1]):
            for place in range(4):
                self.assertIs(self.told((3, changed_at(FORM[1], place, other), FORM[2])), False)
            for place in range(2):
                self.assertIs(self.told((3, FORM[1], changed_at(FORM[2], place, other))), False)

    def test_any_thing(self):
        for thing in strange_things():
            self.assertIs(self.told(thing), False)
            self.assertIs(self.told(changed_at(FORM, 1, thing)), thing in ((0, 0, 0, 0), (1, 2, 3, -4)))
            self.assertIs(self.told(changed_at(FORM, 2, thing)), thing == (0, 0))
        for kind in (tuple, list):
            deep = nested(kind, 198, 0)
            for thing in (deep, (deep, FORM[1], FORM[2]), (3, deep, FORM[2]), (3, FORM[1], deep),
                          (3, (deep, 0, 0, 0), FORM[2])):
                self.assertIs(self.told(thing), False)


class Values(unittest.TestCase):
    def test_values(self):
        for form, crowd, counts, value in (
            (FORM, (0, 0, 0, 1), (0, 0), 8), (FORM, (1, 0, 0, 0), (0, 0), 4), (FORM, (0, 1, 0, 0), (0, 0), 1),
            (FORM, (0, 0, 1, 0), (0, 0), 3), (FORM, (0, 0, 9, 0), (2, 1), 16), (FORM, (2, 3, 4, 5), (6, 8), 3 + 21 + 34),
            ((0, (0,), (0,)), (5,), (5,), 0), ((-1, (2,), (-3,)), (5,), (7,), -12),
            ((BOUND, (BOUND,), (-BOUND,)), (60,), (1000000,), -BOUND * 999939),
            ((10 ** 39, (10 ** 38,), (1,)), (10 ** 6,), (3,), 10 ** 39 + 10 ** 44 + 3),
        ):
            self.assertEqual(value_at(form, crowd, counts), value)

    def test_moved_by_a_meeting(self):
        for form, meeting, change in (
            (FORM, (0, 1, 2, 3), 6), (FORM, (0, 3, 1, 2), -8), (FORM, (1, 1, 0, 3), 10), (FORM, (3, 3, 2, 2), -10),
            (FORM, (0, 2, 1, 1), -5), (FORM, (0, 0, 1, 1), -6), (FORM, (0, 1, 1, 2), -1), (FORM, (2, 3, 3, 3), 5),
            ((0, (BOUND, -BOUND), (1,)), (0, 0, 1, 1), -4 * BOUND), ((BOUND, (-BOUND, BOUND), (1,)), (0, 0, 1, 1), 4 * BOUND),
        ):
            self.assertEqual(change_by(form, meeting), change)
            self.assertEqual(moved(form, meeting), (form[0] + change,) + form[1:])
            self.assertIs(type(moved(form, meeting)), tuple)

    def test_its_value_is_that_behind_the_meeting(self):
        for rule, counts in ((MORE, (4, 3)), (ROOMY, (2, 1, 4))):
            ofs = (5, -7, 11)[:len(counts)]
            for form in ((2, (3, 1, -4, 9), ofs), (0, (0, 0, 0, 1), ofs), (-5, (10 ** 14, 3, -BOUND, 1), ofs)):
                for crowd in itertools.product(range(3), repeat=4):
                    for number in can(rule, crowd):
                        meeting = rule[2][number]
                        there = met(rule, crowd, number)
                        value = value_at(form, there, counts)
                        self.assertEqual(value_at(moved(form, meeting), crowd, counts), value)
                        self.assertEqual(value_at(form, crowd, counts) + change_by(form, meeting), value)

    def test_nothing_is_changed(self):
        before = repr(FORM)
        moved(FORM, (0, 1, 2, 3))
        value_at(FORM, (1, 2, 3, 4), (5, 6))
        self.assertEqual(repr(FORM), before)


if __name__ == "__main__":
    unittest.main()
