"""Rules made fewer [21]."""

import itertools
import random
import unittest

from passersby.crowds import begun, can, met, said
from passersby.fewer import fewer
from passersby.making import made
from passersby.rules import is_rule
from tests.samples import ALONE, MORE, ROCKING, ROOMY, all_bent_rules, beginnings_of, bent_rule, closure


def come_to(rule):
    """By the plain words of [21]."""
    rooms = set(rule[1])
    for again in range(rule[0]):
        for a, b, c, d in rule[2]:
            if {a, b} <= rooms:
                rooms |= {c, d}
    return sorted(rooms)


def turned(rule, one, other):
    """What both turn to, or stay in."""
    for a, b, c, d in rule[2]:
        if (a, b) == (min(one, other), max(one, other)):
            return [c, d]
    return [one, other]


def partings(things):
    """All ways to lay things into parts."""
    if not things:
        yield []
        return
    for rest in partings(things[1:]):
        yield [[things[0]]] + rest
        for place, part in enumerate(rest):
            yield rest[:place] + [[things[0]] + part] + rest[place + 1:]


def goes(rule, rooms, parts):
    """Whether a parting is such as [21] tells."""
    number = {room: k for k, part in enumerate(parts) for room in part}
    for part in parts:
        for one, two in itertools.combinations(part, 2):
            if rule[3][one] != rule[3][two]:
                return False
            for other in rooms:
                ones = sorted(number[room] for room in turned(rule, one, other))
                twos = sorted(number[room] for room in turned(rule, two, other))
                if ones != twos:
                    return False
    return True


def laid(numbers, many, crowd):
    """A crowd laid together by parts."""
    told = [0] * many
    for part, hands in zip(numbers, crowd):
        if hands:
            told[part] += hands
    return tuple(told)


def copied(rule, times):
    """A rule with each room told so many times, the copies behind one another; all turn to copies in turn."""
    rooms = rule[0]
    meets = []
    for low in range(rooms * times):
        for high in range(low, rooms * times):
            one, other = low % rooms, high % rooms
            found = [meeting[2:] for meeting in rule[2] if meeting[:2] == (min(one, other), max(one, other))]
            if found:
                turn = found[0] if one <= other else found[0][::-1]
                shift = (low + high) % times
                meets.append((low, high, turn[0] + rooms * shift, turn[1] + rooms * ((shift + low) % times)))
    return (rooms * times, rule[1], tuple(meets), rule[3] * times)


class Parts(unittest.TestCase):
    def test_as_few_as_can_be(self):
        laid_together, left_out = 0, 0
        for rule in all_bent_rules() + [ROOMY, copied(ROCKING, 2), copied((2, (0, 1), ((0, 1, 1, 1),), (True, False)), 3)]:
            rooms = come_to(rule)
            fits = [parts for parts in partings(rooms) if goes(rule, rooms, parts)]
            few = min(len(parts) for parts in fits)
            best = [sorted(sorted(part) for part in parts) for parts in fits if len(parts) == few]
            self.assertEqual(len(best), 1)
            told, numbers = fewer(rule)
            self.assertEqual(told[0], few)
            expected = [None] * rule[0]
            for number, part in enumerate(best[0]):
                for room in part:
                    expected[room] = number
            self.assertEqual(numbers, tuple(expected), rule)
            laid_together += few < len(rooms)
            left_out += len(rooms) < rule[0]
        self.assertTrue(laid_together > 20 and left_out > 20, (laid_together, left_out))

    def test_told_rules(self):
        for rule in all_bent_rules() + [ROOMY, copied(ROCKING, 3), copied(MORE, 4)]:
            told = fewer(rule)
            self.assertEqual([type(told), len(told), type(told[1]), len(told[1])], [tuple, 2, tuple, rule[0]])
            self.assertTrue(is_rule(told[0]))
            self.assertTrue(all(c <= d for a, b, c, d in told[0][2]), told)
            for sort, start in enumerate(rule[1]):
                self.assertEqual(told[0][1][sort], told[1][start])
            for room, part in enumerate(told[1]):
                self.assertTrue(part is None or told[0][3][part] is rule[3][room])
                self.assertNotIsInstance(part, bool)
            firsts = [part for place, part in enumerate(told[1]) if part is not None and part not in told[1][:place]]
            self.assertEqual(firsts, list(range(told[0][0])))

    def test_made_fewer_again_it_stays(self):
        for rule in all_bent_rules() + [ROOMY, copied(MORE, 3)]:
            told = fewer(rule)[0]
            self.assertEqual(fewer(told), (told, tuple(range(told[0]))))

    def test_crowds_laid_together_go_alike(self):
        for rule in all_bent_rules() + [ROOMY, copied(ROCKING, 2)]:
            told, numbers = fewer(rule)
            for counts in beginnings_of(len(rule[1]), 3):
                self.assertEqual(laid(numbers, told[0], begun(rule, counts)), begun(told, counts))
                for crowd in closure(rule, begun(rule, counts)):
                    here = laid(numbers, told[0], crowd)
                    self.assertEqual(said(rule, crowd), said(told, here))
                    one = {laid(numbers, told[0], met(rule, crowd, number)) for number in can(rule, crowd)} - {here}
                    other = {met(told, here, number) for number in can(told, here)}
                    self.assertEqual(one, other, (rule, crowd))


class PlainOnes(unittest.TestCase):
    def test_rooms_that_nobody_comes_to(self):
        rule = (5, (3,), ((0, 3, 1, 1), (1, 1, 2, 2), (3, 3, 3, 4)), (True, True, True, False, True))
        self.assertEqual(fewer(rule), ((2, (0,), ((0, 0, 0, 1),), (False, True)), (None, None, None, 0, 1)))
        self.assertEqual(fewer(ALONE), (ALONE, (0,)))
        self.assertEqual(fewer((40, (39,), (), (False,) * 40))[1], (None,) * 39 + (0,))

    def test_come_to_however_many_hands_there_are(self):
        # Two in room 0 come to 1, two there to 2, one in 2 and one in 0 to 3: the meetings stand against that order.
        rule = (4, (0,), ((0, 0, 1, 1), (0, 2, 3, 3), (1, 1, 2, 2)), (True, False, True, False))
        self.assertNotIn(None, fewer(rule)[1])
        late = (5, (4,), ((0, 1, 2, 2), (1, 4, 0, 0), (3, 4, 1, 4), (4, 4, 3, 4)), (True, False, True, False, True))
        self.assertNotIn(None, fewer(late)[1])

    def test_copies(self):
        # Rooms 1 and 3 are alike, and so are 0 and 2; sorts start in both.
        rule = (4, (0, 2, 3), ((0, 0, 0, 1), (0, 2, 3, 2), (2, 2, 1, 0)), (False, True, False, True))
        self.assertEqual(fewer(rule), ((2, (0, 0, 1), ((0, 0, 0, 1),), (False, True)), (0, 1, 0, 1)))
        # They say otherwise.
        rule = rule[:3] + ((False, True, True, True),)
        self.assertEqual(fewer(rule)[1][0], 0)
        self.assertGreater(fewer(rule)[0][0], 2)

    def test_rooms_that_meet_otherwise(self):
        # Room 1 and room 2 say the same, but only 1 takes the one in room 0 along.
        rule = (3, (0, 1, 2), ((0, 1, 1, 1),), (False, True, True))
        self.assertEqual(fewer(rule), (rule, (0, 1, 2)))
        # Both do: whether by the room itself or the other one does not count.
        rule = (3, (0, 1, 2), ((0, 1, 2, 1), (0, 2, 1, 1)), (False, True, True))
        self.assertEqual(fewer(rule), ((2, (0, 1, 1), ((0, 1, 1, 1),), (False, True)), (0, 1, 1)))

    def test_as_many_in_each_part_counts(self):
        # Two hands come to parts 0 and 0, or to 0 and 1.
        rule = (4, (0, 1, 2, 3), ((0, 2, 0, 0), (1, 2, 0, 2)), (True, True, False, True))
        parts = fewer(rule)[1]
        self.assertNotEqual(parts[0], parts[1])

    def test_hands_exchanged(self):
        # (1, 2) turns room 0 to 2 and 1 to 1; which of both turns to which does not count.
        rule = (3, (0, 1), ((0, 1, 2, 1), (1, 2, 2, 0)), (True, False, True))
        told = fewer(rule)
        self.assertTrue(all(c <= d for a, b, c, d in told[0][2]))
        straight = (3, (0, 1), ((0, 1, 1, 2), (1, 2, 0, 2)), (True, False, True))
        self.assertEqual(fewer(straight), told)
        # Laid together they only exchange their rooms: no meeting is told.
        self.assertEqual(fewer((4, (0, 1, 2, 3), ((0, 1, 3, 2),), (True, False, True, False))),
                         ((2, (0, 1, 0, 1), (), (True, False)), (0, 1, 0, 1)))

    def test_two_of_one_room(self):
        # Two of room 0 turn, two of room 1 do not; neither turns by the other one.
        rule = (3, (0, 1), ((0, 0, 2, 2),), (True, True, False))
        self.assertEqual(fewer(rule), (rule, (0, 1, 2)))
        # Two of either room turn, but one of each do not: a room that meets its own is told from one that meets another.
        rule = (3, (0, 1), ((0, 0, 2, 2), (1, 1, 2, 2)), (True, True, False))
        self.assertEqual(fewer(rule), (rule, (0, 1, 2)))
        rule = (3, (0, 1), ((0, 0, 2, 2), (0, 1, 2, 2), (1, 1, 2, 2)), (True, True, False))
        self.assertEqual(fewer(rule), ((2, (0, 0), ((0, 0, 1, 1),), (True, False)), (0, 0, 1)))

    def test_finer_step_by_step(self):
        # Each room of a row but the last say the same; only by what they come to are they told apart.
        meets = tuple((room, room, room + 1, room + 1) for room in range(9))
        rule = (10, (0,), meets, (True,) * 9 + (False,))
        self.assertEqual(fewer(rule), (rule, tuple(range(10))))
        self.assertEqual(fewer(rule[:3] + ((True,) * 10,)), ((1, (0,), (), (True,)), (0,) * 10))

    def test_parts_by_their_least_rooms(self):
        rule = (5, (4, 1), ((1, 4, 0, 3), (3, 3, 2, 2)), (True, False, False, True, True))
        told, numbers = fewer(rule)
        seen = []
        for part in numbers:
            if part not in seen:
                seen.append(part)
        self.assertEqual(seen, sorted(seen))

    def test_made_rules(self):
        self.assertEqual(fewer(MORE), ((4, (0, 1), ((0, 1, 2, 3), (0, 3, 0, 2), (1, 2, 1, 3), (2, 3, 3, 3)), MORE[3]),
                                       (0, 1, 2, 3)))
        least = made(("least", (0,), 4), 2)
        self.assertEqual(fewer(least)[0][0], 5)
        both = made(("both", ("least", (0,), 2), ("least", (0,), 2)), 1)
        self.assertEqual(fewer(both)[0], fewer(made(("least", (0,), 2), 1))[0])

    def test_forty_rooms(self):
        rule = copied((4, (0, 1), MORE[2], MORE[3]), 10)
        told, numbers = fewer(rule)
        self.assertTrue(is_rule(rule) and rule[0] == 40)
        self.assertEqual(told, fewer(MORE)[0])
        rooms = come_to(rule)
        self.assertGreater(len(rooms), 30)
        self.assertEqual(numbers, tuple(room % 4 if room in rooms else None for room in range(40)))
        dice = random.Random(40)
        for again in range(5):
            rule = bent_rule(dice, 40, 4)
            told, numbers = fewer(rule)
            rooms = come_to(rule)
            self.assertEqual([room for room in range(40) if numbers[room] is not None], rooms)
            parts = [[room for room in rooms if numbers[room] == part] for part in range(told[0])]
            self.assertTrue(goes(rule, rooms, parts))


class KeptApart(unittest.TestCase):
    def test_nothing_is_changed(self):
        before = repr(ROOMY)
        self.assertEqual(fewer(ROOMY), fewer(ROOMY))
        self.assertEqual(repr(ROOMY), before)


if __name__ == "__main__":
    unittest.main()
