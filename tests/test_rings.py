"""Ends, fair rings, and what they say [4, 19, 20]."""

import unittest

from passersby.crowds import begun, can, met, said
from passersby.errors import NoPaper, TooMany
from passersby.errs import err_at
from passersby.making import made
from passersby.questions import holds
from passersby.rings import ends_of, ring_says, ring_to
from passersby.settling import answers
from tests.samples import (ALONE, A_THOUSAND, FORK, MORE, ONE_MORE, ROCKING, ROOMY, THREE_LINES, all_bent_rules,
                           beginnings_of, bent_rules, changed_at, closure, nested, question_of, strange_things)

# One hand goes round three rooms, by meetings with the one in room 3.
ROUND = (4, (0, 3), ((0, 3, 1, 3), (1, 3, 2, 3), (2, 3, 0, 3)), (True, True, False, True))
RING = ((0,), (1, 2, 0))


def plain_ends(rule, crowd):
    """By the plain words of [19]."""
    come = {here: closure(rule, here) for here in closure(rule, crowd)}
    ends = {tuple(sorted(there)) for there in come.values() if all(come[other] == there for other in there)}
    return sorted(list(end) for end in ends)


def passed(rule, crowd, numbers):
    """The crowds passed, the first one too."""
    crowds = [crowd]
    for number in numbers:
        crowds.append(met(rule, crowds[-1], number))
    return crowds


def refused(rule, crowd, thing):
    """What a thing says, or the word and number that it is refused with."""
    try:
        return ring_says(rule, crowd, thing)
    except NoPaper as refusal:
        return refusal.word, refusal.number


def plainly(rule, crowd, thing):
    """What the ring checker tells, by the plain words of [20]."""
    if type(thing) is not tuple or len(thing) != 2 or type(thing[0]) is not tuple or type(thing[1]) is not tuple:
        return "shape", 0
    here, rings = crowd, []
    for word, numbers in zip(("way", "ring"), thing):
        rings = [here]
        for place, number in enumerate(numbers):
            if type(number) is not int or number not in can(rule, here):
                return word, place
            here = met(rule, here, number)
            rings.append(here)
    if rings[0] != rings[-1]:
        return "round", 0
    for place, one in enumerate(rings):
        if any(met(rule, one, number) not in rings for number in can(rule, one)):
            return "fair", place
    words = {said(rule, one) for one in rings}
    return words.pop() if len(words) == 1 else "both"


class Ends(unittest.TestCase):
    def test_plain_ones(self):
        for rule, crowd, ends in (
            (ALONE, (5,), [[(5,)]]),
            (MORE, (1, 1, 0, 0), [[(0, 0, 0, 2)]]),
            (MORE, (2, 1, 0, 0), [[(1, 0, 2, 0)]]),
            (ROCKING, (3, 0, 0), [[(0, 1, 2), (0, 2, 1), (0, 3, 0)]]),
            (ROCKING, (0, 0, 3), [[(0, 0, 3)]]),
            (FORK, (4, 0, 0), [[(0, 0, 4)], [(0, 4, 0)]]),
            (ROUND, (1, 0, 0, 1), [[(0, 0, 1, 1), (0, 1, 0, 1), (1, 0, 0, 1)]]),
        ):
            told = ends_of(rule, crowd)
            self.assertEqual(told, ends)
            self.assertEqual({type(told)} | {type(end) for end in told}, {list})

    def test_against_a_plain_going_through(self):
        several, great = 0, 0
        for rule in all_bent_rules() + [ROOMY, FORK]:
            for counts in beginnings_of(len(rule[1]), 5 if rule[0] < 3 else 4):
                crowd = begun(rule, counts)
                told = ends_of(rule, crowd)
                self.assertEqual(told, plain_ends(rule, crowd), (rule, crowd))
                several += len(told) > 1
                great += max(len(end) for end in told) > 1
        self.assertTrue(several > 50 and great > 50, (several, great))

    def test_parts_that_lead_out_are_no_ends(self):
        # Two go to and fro between rooms 0 and 1, until the third takes one of them to room 2.
        rule = (4, (0, 3), ((0, 0, 1, 1), (0, 3, 2, 3), (1, 1, 0, 0)), (True,) * 4)
        self.assertEqual(ends_of(rule, (2, 0, 0, 1)), plain_ends(rule, (2, 0, 0, 1)))
        self.assertEqual(ends_of(rule, (2, 0, 0, 1)), [[(0, 0, 2, 1)]])
        self.assertEqual(ends_of(rule, (2, 0, 0, 0)), [[(0, 2, 0, 0), (2, 0, 0, 0)]])

    def test_limits(self):
        for rule in bent_rules(20, 3, 2):
            for counts in beginnings_of(2, 3):
                crowd = begun(rule, counts)
                many = len(closure(rule, crowd))
                ends = ends_of(rule, crowd, many)
                ring_to(rule, crowd, ends[0], many)
                if many > 1:
                    for asked in (lambda: ends_of(rule, crowd, many - 1),
                                  lambda: ring_to(rule, crowd, ends[0], many - 1)):
                        with self.assertRaises(TooMany):
                            asked()

    def test_a_thousand_where_it_is_left_out(self):
        crowd = begun(THREE_LINES, A_THOUSAND)
        ends = ends_of(THREE_LINES, crowd)
        self.assertEqual(ends, [[(0, 9, 0, 9, 0, 9)]])
        self.assertEqual(ring_says(THREE_LINES, crowd, ring_to(THREE_LINES, crowd, ends[0])), "no")
        crowd = begun(THREE_LINES, ONE_MORE)
        ends = ends_of(THREE_LINES, crowd, 1001)
        for asked in (lambda: ends_of(THREE_LINES, crowd), lambda: ring_to(THREE_LINES, crowd, ends[0])):
            with self.assertRaises(TooMany):
                asked()


class RingsTold(unittest.TestCase):
    def test_each_end_has_a_fair_ring(self):
        told = set()
        for rule in all_bent_rules() + [ROOMY, FORK]:
            for counts in beginnings_of(len(rule[1]), 4):
                crowd = begun(rule, counts)
                for end in ends_of(rule, crowd):
                    ring = ring_to(rule, crowd, end)
                    self.assertEqual([type(ring)] + [type(part) for part in ring], [tuple] * 3)
                    first = passed(rule, crowd, ring[0])[-1]
                    crowds = passed(rule, first, ring[1])
                    self.assertEqual((sorted(set(crowds)), crowds[-1]), (end, first))
                    word = ring_says(rule, crowd, ring)
                    self.assertEqual(word, plainly(rule, crowd, ring))
                    told.add(word)
        self.assertEqual(told, {"yes", "no", "both"})

    def test_a_great_end(self):
        # Sixty hands go round three rooms: all crowds of at least some hands in each come again and again.
        rule = (3, (0,), ((0, 0, 0, 1), (0, 1, 1, 2), (0, 2, 0, 0), (1, 2, 0, 2)), (True, False, True))
        crowd = (44, 0, 0)
        ends = ends_of(rule, crowd, 3000)
        self.assertGreater(max(len(end) for end in ends), 500)
        for end in ends:
            ring = ring_to(rule, crowd, end, 3000)
            self.assertEqual(ring_says(rule, crowd, ring), "both" if len(end) > 1 else said(rule, end[0]))
            self.assertEqual(sorted(set(passed(rule, passed(rule, crowd, ring[0])[-1], ring[1]))), end)


class RingSays(unittest.TestCase):
    def test_yes_no_and_both(self):
        crowd = (1, 0, 0, 1)
        for says, word in (((True, True, False, True), "both"), ((True,) * 4, "yes"), ((False,) * 4, "no"),
                           ((True, True, True, False), "both"), ((False, True, False, False), "both")):
            rule = ROUND[:3] + (says,)
            for ring in (RING, ((), (0, 1, 2)), ((0, 1), (2, 0, 1) * 5), ((0, 1, 2) * 3, (0, 1, 2))):
                self.assertEqual(ring_says(rule, crowd, ring), word)

    def test_yes_and_no_each_by_itself(self):
        # At one crowd all say yes, at the other one all say no.
        rule = (2, (0,), ((0, 0, 1, 1), (1, 1, 0, 0)), (True, False))
        self.assertEqual(ring_says(rule, (2, 0), ((), (0, 1))), "both")
        self.assertEqual(ring_says(rule, (2, 0), ((0,), (1, 0))), "both")

    def test_a_ring_of_no_meetings(self):
        self.assertEqual(ring_says(MORE, (0, 0, 1, 0), ((), ())), "yes")
        self.assertEqual(ring_says(MORE, (1, 1, 0, 0), ((0, 3), ())), "no")
        self.assertEqual(ring_says(ROUND, (1, 0, 1, 0), ((), ())), "both")
        self.assertEqual(refused(MORE, (1, 1, 0, 0), ((), ())), ("fair", 0))
        self.assertEqual(refused(MORE, (1, 1, 0, 0), ((0,), ())), ("fair", 0))
        self.assertEqual(refused(ROUND, (1, 0, 0, 1), ((0, 1), ())), ("fair", 0))

    def test_answers_just_where_each_fair_ring_says_the_truth(self):
        seen = set()
        for rule in all_bent_rules():
            question = question_of(len(rule[1]))
            for counts in beginnings_of(len(rule[1]), 4):
                crowd = begun(rule, counts)
                word = "yes" if holds(question, counts) else "no"
                words = {ring_says(rule, crowd, ring_to(rule, crowd, end)) for end in ends_of(rule, crowd)}
                told = words == {word}
                self.assertIs(answers(rule, question, counts), told, (rule, counts))
                self.assertEqual(err_at(rule, question, counts) is None, told)
                seen.add((told, word))
        self.assertEqual(len(seen), 4)

    def test_made_rules_say_the_truth(self):
        for question in (("more", (0,), (1,)), ("rest", (0, 1), 3, 2), ("least", (1,), 3)):
            rule = made(question, 2)
            for counts in beginnings_of(2, 5):
                crowd = begun(rule, counts)
                for end in ends_of(rule, crowd):
                    word = ring_says(rule, crowd, ring_to(rule, crowd, end))
                    self.assertEqual(word, "yes" if holds(question, counts) else "no")


class Refused(unittest.TestCase):
    def setUp(self):
        self.crowd = (1, 0, 0, 1)

    def told(self, thing):
        answer = refused(ROUND, self.crowd, thing)
        self.assertEqual(answer, plainly(ROUND, self.crowd, thing), thing)
        return answer

    def test_shape(self):
        for thing in strange_things():
            self.assertEqual(self.told(thing), ("shape", 0), thing)
            if type(thing) is not tuple:
                self.assertEqual(self.told((thing, RING[1])), ("shape", 0))
                self.assertEqual(self.told((RING[0], thing)), ("shape", 0))
        for thing in (list(RING), RING[:1], RING + ((),), ([0], (1, 2, 0)), ((0,), [1, 2, 0]), (0, 1), ("", ())):
            self.assertEqual(self.told(thing), ("shape", 0))

    def test_way(self):
        for thing in strange_things() + [True, False, "0", (0,), [0], 3, -1, 10 ** 39, -3, 1, 2]:
            if not (type(thing) is int and thing == 0):
                self.assertEqual(self.told(((thing,), RING[1])), ("way", 0), thing)
                self.assertEqual(self.told(((0, 1, 2, thing), RING[1])), ("way", 3), thing)
        self.assertEqual(self.told(((0, 0, 9), (9,))), ("way", 1))

    def test_ring(self):
        for thing in strange_things() + [True, False, "1", (1,), [1], 3, -1, 10 ** 39, -2, 0, 2]:
            if not (type(thing) is int and thing == 1):
                self.assertEqual(self.told(((0,), (thing, 2, 0))), ("ring", 0), thing)
                self.assertEqual(self.told(((0,), (1, 2, 0, thing))), ("ring", 3), thing)
        self.assertEqual(self.told(((0,), (1, 1, 1))), ("ring", 1))

    def test_round(self):
        for ring in ((1,), (1, 2), (1, 2, 0, 1), (1, 2, 0, 1, 2)):
            self.assertEqual(self.told(((0,), ring)), ("round", 0))
        self.assertEqual(refused(MORE, (1, 1, 0, 0), ((), (0,))), ("round", 0))

    def test_fair(self):
        # To and fro between rooms 0 and 1; a meeting with the one in room 2 would lead out.
        rule = (5, (0, 2), ((0, 0, 1, 1), (1, 1, 0, 0), (1, 2, 3, 2)), (True,) * 5)
        for thing, told in (
            (((), (0, 1)), ("fair", 1)), (((0,), (1, 0)), ("fair", 0)), (((), (0, 1, 0, 1)), ("fair", 1)),
            (((), ()), ("fair", 0)), (((0, 2, 2), ()), "yes"), (((0, 1) * 3, (0, 1)), ("fair", 1)),
        ):
            self.assertEqual(refused(rule, (2, 0, 1, 0, 0), thing), told)
            self.assertEqual(plainly(rule, (2, 0, 1, 0, 0), thing), told)
        self.assertEqual(refused(rule, (2, 0, 0, 0, 0), ((), (0, 1))), "yes")
        # Rooms go round by four meetings, and just from the last one of the crowds a meeting leads out.
        rule = (6, (0, 4), ((0, 4, 1, 4), (1, 4, 2, 4), (2, 4, 3, 4), (3, 3, 5, 5), (3, 4, 0, 4)), (True,) * 6)
        self.assertEqual(refused(rule, (1, 0, 0, 0, 1, 0), ((), (0, 1, 2, 4))), "yes")
        crowd = (1, 0, 0, 1, 1, 0)
        ring = (0, 1, 2, 4)
        self.assertEqual(refused(rule, crowd, ((), ring)), plainly(rule, crowd, ((), ring)))

    def test_the_last_crowd_passed(self):
        rule = (5, (0, 3), ((0, 3, 1, 3), (1, 3, 2, 3), (2, 2, 4, 4), (2, 3, 0, 3)), (True,) * 5)
        crowd = (1, 0, 1, 1, 0)
        # The one goes round by all rooms, the other one stays in room 2: there both may meet at last.
        thing = ((), (0, 1, 3))
        told = refused(rule, crowd, thing)
        self.assertEqual(told, plainly(rule, crowd, thing))
        self.assertEqual(told[0], "fair")
        leave = (3, (0, 0), ((0, 0, 0, 1), (0, 1, 0, 0), (1, 1, 2, 2)), (True,) * 3)
        self.assertEqual(refused(leave, (3, 0, 0), ((), (0, 0, 1, 1))), ("fair", 2))
        self.assertEqual(refused(leave, (3, 0, 0), ((0,), (0, 1))), ("fair", 0))
        self.assertEqual(refused(leave, (3, 0, 0), ((0, 1), (0, 1))), ("fair", 1))

    def test_several_faults(self):
        for thing in ((([9], 9)), ((9,), (9,)), ((0,), (1, 9)), ((0,), (1, 2)), ((0, 1), ()), ((True,), [1]),
                      ((0,), (1, True)), ((0, 5), (1,))):
            self.told(thing)

    def test_bent_rings_of_many_rules(self):
        told = set()
        for rule in all_bent_rules():
            for counts in beginnings_of(len(rule[1]), 3):
                crowd = begun(rule, counts)
                for way, ring in [ring_to(rule, crowd, end) for end in ends_of(rule, crowd)]:
                    for number in range(-1, 4):
                        things = [(way + (number,), ring), (way, ring + (number,)), (way, (number,) + ring)]
                        things += [(changed_at(way, 0, number), ring), (way, changed_at(ring, 0, number))]
                        things += [(way[:number], ring), (way, ring[:number]), (way, ring + ring), (way[:number], ())]
                        for thing in things:
                            answer = refused(rule, crowd, thing)
                            self.assertEqual(answer, plainly(rule, crowd, thing), (rule, crowd, thing))
                            told.add(answer if type(answer) is str else answer[0])
        self.assertEqual(told, {"yes", "no", "both", "way", "ring", "round", "fair"})

    def test_things_far_within_one_another(self):
        for kind in (tuple, list):
            deep = nested(kind, 198, 0)
            for thing in (deep, (deep, ()), ((), deep), ((deep,), ()), ((), (deep,)), ((0,), (1, deep))):
                self.told(thing)

    def test_a_long_ring(self):
        self.assertEqual(refused(ROUND, self.crowd, ((0, 1, 2) * 10000, (0, 1, 2) * 50000)), "both")
        self.assertEqual(refused(ROUND, self.crowd, ((), (0, 1, 2) * 60000 + (0,))), ("round", 0))


class KeptApart(unittest.TestCase):
    def test_told_lists_are_the_askers_own(self):
        crowd = (3, 0, 0)
        before = repr((ROCKING, crowd))
        told = ends_of(ROCKING, crowd)
        end = list(told[0])
        ring = ring_to(ROCKING, crowd, told[0])
        self.assertEqual(told, [end])
        told[0].clear()
        told.append(7)
        self.assertEqual(ends_of(ROCKING, crowd), [end])
        self.assertEqual(ring_to(ROCKING, crowd, end), ring)
        ring_says(ROCKING, crowd, ring)
        self.assertEqual(repr((ROCKING, crowd)), before)


if __name__ == "__main__":
    unittest.main()
