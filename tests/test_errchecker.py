"""What the err checker lets by, and what it refuses with which word [16, 17]."""

import itertools
import unittest

from passersby.crowds import begun, can, is_crowd, met, said
from passersby.errchecker import lets_err
from passersby.errors import NoPaper
from passersby.errs import err_at
from passersby.questions import holds
from passersby.rules import is_counts
from tests.samples import (ALONE, MORE, ROCKING, all_bent_rules, beginnings_of, changed_at, nested, question_of,
                           strange_things)

ALWAYS = ("least", (0,), 1)
NEVER = ("least", (0,), 9)

LOW, MIDDLE, HIGH = (0, 1, 2), (0, 2, 1), (0, 3, 0)
PAPER = ((3,), (0, 1, 1), ((LOW, 0), (MIDDLE, 0), (HIGH, 1)))

# All that comes of three hands: the ranks of those that say the truth all along fall by one, or by more.
WHOLE = ((3,), (), ((LOW, 0), (MIDDLE, 0), (HIGH, 1), ((1, 1, 1), 0), ((1, 2, 0), 7), ((2, 1, 0), 8), ((3, 0, 0), 9)))


def refused(thing, rule=ROCKING, question=ALWAYS):
    """The word and number that a thing is refused with, or True."""
    try:
        return lets_err(rule, question, thing)
    except NoPaper as refusal:
        return refusal.word, refusal.number


def ranked(ranks, numbers=(0, 1, 1)):
    """The paper with other ranks."""
    return ((3,), numbers, tuple(ranks))


def plainly(rule, question, thing):
    """What the checker tells, by the plain words of [17]."""
    if type(thing) is not tuple or len(thing) != 3 or not is_counts(len(rule[1]), thing[0]) or sum(thing[0]) > 60:
        return "shape", 0
    if type(thing[1]) is not tuple or type(thing[2]) is not tuple:
        return "shape", 0
    here = begun(rule, thing[0])
    for place, number in enumerate(thing[1]):
        if type(number) is not int or number not in can(rule, here):
            return "way", place
        here = met(rule, here, number)
    for place, part in enumerate(thing[2]):
        right = type(part) is tuple and len(part) == 2 and is_crowd(rule, part[0]) and type(part[1]) is int
        if not right or part[1] < 0 or sum(part[0]) != sum(thing[0]):
            return "rank", place
        if place > 0 and part[0] <= thing[2][place - 1][0]:
            return "rank", place
    ranks = dict(thing[2])
    if here not in ranks:
        return "from", 0
    word = "yes" if holds(question, thing[0]) else "no"
    for place, (crowd, rank) in enumerate(thing[2]):
        leads = [met(rule, crowd, number) for number in can(rule, crowd)]
        if set(leads) - set(ranks):
            return "closed", place
        if said(rule, crowd) == word if rank == 0 else min([ranks[lead] for lead in leads], default=rank) >= rank:
            return "falls", place
    return True


class LetBy(unittest.TestCase):
    def test_papers(self):
        for paper in (PAPER, WHOLE, ranked(PAPER[2], (0, 1, 1, 2)), ranked(PAPER[2], (0, 1, 2, 1)),
                      ranked(PAPER[2], (0, 1, 1) + (2, 3) * 100)):
            self.assertIs(lets_err(ROCKING, ALWAYS, paper), True)
            self.assertIs(lets_err(ROCKING, ("not", NEVER), paper), True)

    def test_crowds_that_do_not_come_from_there(self):
        self.assertIs(lets_err(ROCKING, ALWAYS, ranked(PAPER[2] + (((1, 0, 2), 0),))), True)
        self.assertIs(lets_err(ROCKING, ALWAYS, ranked((((0, 0, 3), 0),) + PAPER[2])), True)

    def test_ranks_need_only_fall(self):
        for rank in (1, 2, 77, 10 ** 39):
            self.assertIs(lets_err(ROCKING, ALWAYS, ranked(changed_at(PAPER[2], 2, (HIGH, rank)))), True)
        # A crowd in which some hand does not say the truth may have a rank above 0, where that falls.
        self.assertIs(lets_err(ROCKING, ALWAYS, ranked(((LOW, 1), (MIDDLE, 0), (HIGH, 1)))), True)

    def test_the_other_truth(self):
        for truth, question in ((True, ALWAYS), (False, NEVER)):
            rule = (1, (0,), (), (not truth,))
            self.assertIs(lets_err(rule, question, ((2,), (), (((2,), 0),))), True)
            rule = (1, (0,), (), (truth,))
            self.assertEqual(refused(((2,), (), (((2,), 0),)), rule, question), ("falls", 0))
        self.assertIs(lets_err(ROCKING, NEVER, ((1,), (), (((1, 0, 0), 0),))), True)
        self.assertEqual(refused(((1,), (), (((1, 0, 0), 0),))), ("falls", 0))

    def test_the_truth_is_that_of_the_beginning(self):
        question = ("more", (0,), (1,))
        for counts in ((1, 1), (1, 0), (0, 1)):
            truth = counts[0] > counts[1]
            rule = (1, (0, 0), (), (truth,))
            paper = (counts, (), (((sum(counts),), 0),))
            self.assertEqual(refused(paper, rule, question), ("falls", 0))
            self.assertIs(refused(paper, (1, (0, 0), (), (not truth,)), question), True)


class Shape(unittest.TestCase):
    def test_any_thing(self):
        for thing in strange_things():
            self.assertEqual(refused(thing), ("shape", 0), thing)
            self.assertEqual(refused((thing,) + PAPER[1:]), ("shape", 0) if thing != (7,) else ("way", 0), thing)

    def test_of_another_kind(self):
        for thing in (list(PAPER), PAPER[:2], PAPER + ((),), PAPER[1:], (), ((3,), [0, 1, 1], PAPER[2]),
                      ((3,), PAPER[1], list(PAPER[2])), ([3], PAPER[1], PAPER[2]), ((3,), None, PAPER[2]),
                      ((3,), PAPER[1], None), ((3,), "011", PAPER[2]), ((3,), PAPER[1], {}), (3, PAPER[1], PAPER[2])):
            self.assertEqual(refused(thing), ("shape", 0), thing)

    def test_no_beginning(self):
        for counts in ((0,), (-1,), (True,), (3, 0), (), ("3",), (None,), ((3,),), (61,), (1000000,), (10 ** 39,)):
            self.assertEqual(refused((counts,) + PAPER[1:]), ("shape", 0), counts)

    def test_sixty_hands(self):
        rule = (1, (0, 0), (), (False,))
        for counts in ((60, 0), (30, 30), (0, 60), (59, 0)):
            paper = (counts, (), (((sum(counts),), 0),))
            self.assertIs(lets_err(rule, ("least", (0, 1), 1), paper), True)
        for counts in ((61, 0), (30, 31), (60, 1), (0, 61)):
            paper = (counts, (), (((sum(counts),), 0),))
            self.assertEqual(refused(paper, rule, ("least", (0, 1), 1)), ("shape", 0))
        self.assertIs(lets_err(ROCKING, ALWAYS, err_at(ROCKING, ALWAYS, (40,))), True)


class Way(unittest.TestCase):
    def test_no_number_that_can_be(self):
        strange = strange_things() + [4, 5, True, False, "0", (0,), [0], 10 ** 39, -1, -4]
        for place in range(3):
            for thing in strange:
                can_be = type(thing) is int and thing in can(ROCKING, ((3, 0, 0), (2, 1, 0), (1, 2, 0))[place])
                if not can_be:
                    paper = (PAPER[0], changed_at(PAPER[1], place, thing), PAPER[2])
                    self.assertEqual(refused(paper), ("way", place), (place, thing))

    def test_the_first_of_several(self):
        for numbers, place in (((1,), 0), ((0, 0, 0), 2), ((0, 1, 1, 0), 3), ((0, 9, True), 1), ((None, None), 0)):
            self.assertEqual(refused((PAPER[0], numbers, PAPER[2])), ("way", place))

    def test_of_a_rule_without_meetings(self):
        for number in (0, 1, -1):
            self.assertEqual(refused(((1,), (number,), (((1,), 0),)), ALONE), ("way", 0))


class Rank(unittest.TestCase):
    def test_no_such_tuple(self):
        wrong = [
            [HIGH, 1], (HIGH,), (HIGH, 1, 1), (1, HIGH), HIGH, (HIGH, True), (HIGH, -1), (HIGH, "1"), (HIGH, None),
            (HIGH, (1,)), (list(HIGH), 1), ((0, 3), 1), ((0, 3, 0, 0), 1), ((0, True, 2), 1), ((0, 4, -1), 1),
            ((0, 0, 0), 1), ((0, 2, 0), 1), ((0, 4, 0), 1), ((1, 3, 0), 1), ((10 ** 39, 0, 0), 1), (("0", 3, 0), 1),
        ]
        for place in range(3):
            for thing in wrong + strange_things():
                self.assertEqual(refused(ranked(changed_at(PAPER[2], place, thing))), ("rank", place), thing)

    def test_crowds_that_do_not_rise(self):
        for places, place in (((0, 0, 1, 2), 1), ((1, 0, 2), 1), ((0, 2, 1), 2), ((2, 1, 0), 1), ((0, 1, 2, 2), 3),
                              ((0, 1, 2, 0), 3)):
            self.assertEqual(refused(ranked([PAPER[2][k] for k in places])), ("rank", place))
        twice = ((LOW, 0), (MIDDLE, 0), (HIGH, 1), (HIGH, 2))
        self.assertEqual(refused(ranked(twice)), ("rank", 3))

    def test_hands_are_those_of_the_beginning(self):
        for counts in ((2,), (4,)):
            self.assertEqual(refused((counts, (), PAPER[2])), ("rank", 0))


class From(unittest.TestCase):
    def test_the_crowd_does_not_stand_there(self):
        for numbers in ((), (0,), (0, 1)):
            self.assertEqual(refused(ranked(PAPER[2], numbers)), ("from", 0))
        self.assertEqual(refused(ranked(())), ("from", 0))
        self.assertEqual(refused(ranked(PAPER[2][:2])), ("from", 0))


class ClosedAndFalls(unittest.TestCase):
    def test_a_meeting_leads_out(self):
        self.assertEqual(refused(ranked([PAPER[2][0], PAPER[2][2]])), ("closed", 0))
        self.assertEqual(refused(ranked(PAPER[2][1:])), ("closed", 0))
        self.assertEqual(refused(ranked(PAPER[2][:2], (0, 1, 1, 2))), ("closed", 1))
        self.assertEqual(refused(ranked(PAPER[2] + (((1, 2, 0), 2),))), ("closed", 3))
        for place in range(len(WHOLE[2]) - 1):
            left = WHOLE[2][:place] + WHOLE[2][place + 1:]
            self.assertEqual(refused((WHOLE[0], (), left)), plainly(ROCKING, ALWAYS, (WHOLE[0], (), left)))

    def test_ranks_that_do_not_fall(self):
        self.assertEqual(refused(ranked(((LOW, 0), (MIDDLE, 0), (HIGH, 0)))), ("falls", 2))
        self.assertEqual(refused(ranked(((LOW, 0), (MIDDLE, 1), (HIGH, 1)))), ("falls", 2))
        self.assertEqual(refused(ranked(((LOW, 5), (MIDDLE, 5), (HIGH, 6)))), ("falls", 0))
        self.assertEqual(refused(ranked(((LOW, 6), (MIDDLE, 5), (HIGH, 5)))), ("falls", 1))
        self.assertEqual(refused(ranked(((LOW, 0), (MIDDLE, 2), (HIGH, 2)))), ("falls", 2))
        # A rank above 0 has to fall even where no meeting can be, and a hand does not say the truth.
        self.assertEqual(refused(ranked((((0, 0, 3), 1),) + PAPER[2])), ("falls", 0))

    def test_one_behind_the_other(self):
        # At the first crowd the rank does not fall, at the last one a meeting leads out.
        self.assertEqual(refused(ranked(((LOW, 9),) + PAPER[2][1:] + (((1, 2, 0), 2),))), ("closed", 3))
        self.assertEqual(refused(ranked(((LOW, 1), (MIDDLE, 1), (HIGH, 2), ((1, 2, 0), 3)))), ("falls", 0))
        # At one crowd both.
        self.assertEqual(refused(ranked(PAPER[2] + (((1, 2, 0), 0),))), ("closed", 3))
        self.assertEqual(refused(ranked(((LOW, 1), (HIGH, 0)))), ("closed", 0))
        # A meeting leads out ahead of a rank that does not fall.
        self.assertEqual(refused(ranked(((LOW, 0), (HIGH, 0)))), ("closed", 0))


class SeveralFaults(unittest.TestCase):
    def test_the_first_word_goes(self):
        shapes = [(3,), (61,)]
        ways = [(0, 1, 1), (0, 1, 0), ()]
        ranks = [PAPER[2], PAPER[2][:2], PAPER[2][::-1], PAPER[2][1:], ((LOW, 0), (MIDDLE, 0), (HIGH, 0)),
                 ((LOW, 9), (MIDDLE, 9), (HIGH, 0)), [PAPER[2]], ((LOW, 0), None, (HIGH, 1))]
        told = set()
        for thing in itertools.product(shapes, ways, ranks):
            answer = refused(thing)
            self.assertEqual(answer, plainly(ROCKING, ALWAYS, thing), thing)
            told.add(answer if answer is True else answer[0])
        self.assertEqual(told, {True, "shape", "way", "rank", "from", "closed", "falls"})

    def test_bent_papers_of_many_rules(self):
        told = {}
        for rule in all_bent_rules():
            question = question_of(len(rule[1]))
            for counts in beginnings_of(len(rule[1]), 3):
                paper = err_at(rule, question, counts)
                if paper is None:
                    continue
                for thing in bent(paper):
                    answer = refused(thing, rule, question)
                    self.assertEqual(answer, plainly(rule, question, thing), (rule, thing))
                    word = answer if answer is True else answer[0]
                    told[word] = told.get(word, 0) + 1
        self.assertTrue(all(told.get(word, 0) > 20 for word in (True, "way", "rank", "from", "closed", "falls")), told)


def bent(paper):
    """A paper, and ones with one thing otherwise."""
    counts, numbers, ranks = paper
    yield paper
    for number in range(-1, 5):
        yield counts, numbers + (number,), ranks
        yield counts, (number,) + numbers, ranks
    for place, (crowd, rank) in enumerate(ranks):
        yield counts, numbers, ranks[:place] + ranks[place + 1:]
        yield counts, numbers, ranks[:place + 1] + ranks[place:]
        for other in (0, rank + 1, rank - 1, True):
            yield counts, numbers, changed_at(ranks, place, (crowd, other))
        yield counts, numbers, changed_at(ranks, place, (crowd[::-1], rank))


class AnyThing(unittest.TestCase):
    def test_things_far_within_one_another(self):
        for kind in (tuple, list):
            deep = nested(kind, 197, 0)
            for thing in (deep, (deep, (), ()), ((deep,), (), ()), ((3,), deep, ()), ((3,), (), deep),
                          ((3,), (deep,), ()), ((3,), (), (deep,)), ((3,), (), ((deep, 0),)),
                          ((3,), (), (((3, 0, 0), deep),)), ((3,), (), (((3, deep, 0), 0),))):
                self.assertEqual(refused(thing), plainly(ROCKING, ALWAYS, thing))

    def test_many_things(self):
        self.assertEqual(refused(((3,), (0, 1, 1) + (2, 3) * 90000 + (0,), PAPER[2])), ("way", 180003))
        self.assertEqual(refused(((3,), (), ((HIGH, 0),) * 40000)), ("rank", 1))
        self.assertEqual(refused(tuple([None] * 199999)), ("shape", 0))

    def test_nothing_is_changed(self):
        thing = ((3,), [0, 1], [[(3, 0, 0), 1]])
        before = repr((thing, ROCKING, ALWAYS, PAPER))
        refused(thing)
        refused(PAPER)
        refused(PAPER, MORE, ("more", (0,), (1,)))
        self.assertEqual(repr((thing, ROCKING, ALWAYS, PAPER)), before)


if __name__ == "__main__":
    unittest.main()
