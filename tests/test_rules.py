"""Rules and beginnings [2, 5, 6]."""

import unittest

from passersby.rules import is_counts, is_rule
from tests.samples import ALONE, MORE, ROOMY, changed_at, strange_things


class Counts(unittest.TestCase):
    def test_beginnings(self):
        for counts in ((1,), (1000000,), (0, 1), (1, 0), (0, 0, 2), (1, 2, 3, 4), (1000000,) * 4):
            self.assertIs(is_counts(len(counts), counts), True, counts)

    def test_bounds(self):
        for counts in ((0,), (-1,), (1000001,), (0, 0), (0, 0, 0, 0), (5, -1), (5, 1000001), (10 ** 39,), (2, -10 ** 39)):
            self.assertIs(is_counts(len(counts), counts), False, counts)

    def test_as_many_as_sorts(self):
        for sorts in (1, 2, 3, 4):
            for many in range(7):
                self.assertIs(is_counts(sorts, (1,) * many), many == sorts)

    def test_truths_lists_and_others(self):
        for thing in ((True,), (False,), [1], "1", ("1",), (None,), ((1,),), ([1],), 1, {1: 1}):
            self.assertIs(is_counts(1, thing), False, thing)
        for thing in ((1, True), (True, 1), (0, True), (1, False), [1, 1], (1, None), (1, "1"), (1, (1,))):
            self.assertIs(is_counts(2, thing), False, thing)

    def test_any_thing(self):
        for sorts in (1, 2, 3, 4):
            for thing in strange_things():
                self.assertIs(is_counts(sorts, thing), False, (sorts, str(thing)[:50]))


def small(meets):
    """A rule of three rooms with these meetings."""
    return (3, (0,), meets, (True, False, True))


class Rules(unittest.TestCase):
    def told(self, truth, things):
        for thing in things:
            self.assertIs(is_rule(thing), truth, str(thing)[:200])

    def test_rules(self):
        self.told(True, [MORE, ROOMY, ALONE, (1, (0, 0, 0, 0), (), (False,))])

    def test_how_many_rooms(self):
        self.told(True, [(rooms, (0,), (), (True,) * rooms) for rooms in (1, 2, 39, 40)])
        self.told(False, [(rooms, (0,), (), (True,) * max(rooms, 0)) for rooms in (0, -1, 41, 42, 1000)])
        self.told(False, [(rooms, (0,), (), (True,)) for rooms in (True, False, None, "1", (1,), [1], 10 ** 39)])

    def test_starts(self):
        self.told(True, [changed_at(MORE, 1, starts) for starts in ((0,), (3,), (3, 3, 3), (0, 1, 2, 3))])
        self.told(False, [changed_at(MORE, 1, starts) for starts in (
            (), (0, 1, 2, 3, 0), (4,), (-1,), (0, 4), (3, -1), (True,), (False, 1), [0], [0, 1], "0", ("0",), None, 0,
            (None,), ((0,),), (10 ** 39,), (0,) * 1000)])

    def test_says(self):
        self.told(True, [changed_at(MORE, 3, says) for says in ((True,) * 4, (False,) * 4)])
        self.told(False, [changed_at(MORE, 3, says) for says in (
            (), (True,) * 3, (True,) * 5, (1, 0, 1, 0), (True, True, True, 1), (0, False, False, False),
            [True] * 4, "yes", None, True, (None,) * 4, ("yes",) * 4, ((True,),) * 4)])

    def test_rooms_of_a_meeting(self):
        edge = ((0, 0, 2, 2), (0, 2, 0, 0), (2, 2, 0, 0))
        self.told(True, [small(edge)])
        for number in range(3):
            for place in range(4):
                for room in (-1, 3, 10 ** 39, None, "0", (0,), [0]):
                    broken = changed_at(edge, number, changed_at(edge[number], place, room))
                    self.told(False, [small(broken)])

    def test_truths_in_a_meeting(self):
        self.told(True, [small(((0, 1, 0, 0),))])
        self.told(False, [small((changed_at((0, 1, 0, 0), place, truth),)) for place in range(4)
                          for truth in (True, False)])

    def test_the_lesser_room_is_told_first(self):
        self.told(True, [small(((0, 1, 2, 2),)), small(((1, 1, 2, 2),)), small(((1, 1, 2, 0),))])
        self.told(False, [small(((1, 0, 2, 2),)), small(((2, 1, 0, 0),)), small(((0, 0, 1, 2), (2, 1, 0, 0)))])

    def test_meetings_rise(self):
        self.told(True, [small(((0, 0, 1, 1), (0, 1, 2, 2), (1, 1, 0, 0), (1, 2, 0, 0), (2, 2, 0, 0)))])
        self.told(False, [
            small(((0, 1, 2, 2), (0, 0, 1, 1))),
            small(((1, 1, 2, 2), (0, 2, 1, 1))),
            small(((0, 1, 2, 2), (0, 1, 2, 2))),
            small(((0, 1, 2, 2), (0, 1, 0, 0))),
            small(((0, 0, 1, 1), (1, 1, 0, 0), (0, 1, 2, 2))),
        ])

    def test_meetings_change_something(self):
        for a in range(3):
            for b in range(a, 3):
                for c in range(3):
                    for d in range(3):
                        changes = sorted((a, b)) != sorted((c, d))
                        self.told(changes, [small(((a, b, c, d),))])

    def test_meetings_are_tuples_of_four(self):
        self.told(False, [small(meets) for meets in (
            [], [(0, 1, 2, 2)], ([0, 1, 2, 2],), ((0, 1, 2),), ((0, 1, 2, 2, 2),), ((),), (None,), (0,), ("0122",), None,
            0, "", (0, 1, 2, 2), ((0, 0, 1, 1), [0, 1, 2, 2]))])

    def test_parts_left_out_too_many_in_another_order(self):
        self.told(False, [MORE[:3], MORE[1:], MORE + ((),), MORE + (True,), list(MORE), (MORE,), MORE[:1], MORE + MORE])
        self.told(False, [(MORE[0], MORE[2], MORE[1], MORE[3]), (MORE[0], MORE[1], MORE[3], MORE[2]),
                          (MORE[1], MORE[0], MORE[2], MORE[3]), (MORE[0], MORE[3], MORE[2], MORE[1])])

    def test_all_meetings_of_forty_rooms(self):
        meets = [(a, b, 39 if b < 39 else 0, 39 if b < 39 else 0) for a in range(40) for b in range(a, 40)]
        self.told(True, [(40, (0, 39), tuple(meets), (False,) * 40)])
        self.told(False, [(40, (0, 39), tuple(meets + meets), (False,) * 40)])
        self.told(False, [(40, (0, 39), tuple(meets[::-1]), (False,) * 40)])

    def test_any_thing(self):
        self.told(False, strange_things())
        # Which of the strange things are right ones, in which place.
        right = {1: ["(0,)", "(0, 0)", "(0, 0, 0, 0)"], 2: ["()"], 3: ["(True, True, True, True)"]}
        for place in range(4):
            for thing in strange_things():
                self.told(repr(thing) in right.get(place, []), [changed_at(ROOMY, place, thing)])


if __name__ == "__main__":
    unittest.main()
