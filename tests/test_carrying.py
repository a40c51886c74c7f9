"""Papers of rules made fewer, carried to the rules themselves [33]."""

import random
import unittest

from passersby.asked import rows_of
from passersby.carrying import carried
from passersby.fewer import fewer
from passersby.making import made
from passersby.paperchecker import lets_paper
from passersby.papers import paper_of, turned_paper
from passersby.rules import is_rule
from passersby.together import put_together
from tests.samples import (
    ALONE, ODD, TWO, alone_paper, bounds_of, deepened, few_paper, grown_rules, hand_papers, odd_paper, ones, two_paper,
    walks_by, with_facts)


def made_given(question, sorts):
    return (made(question, sorts), question, 1, paper_of(question, sorts))


def stays_as_it_is(given):
    return fewer(given[0])[0] == given[0]


def told_givens():
    """Told papers of rules that made fewer stay as they are."""
    asked = [(("more", (0,), (1,)), 2), (("least", (0,), 3), 1), (("least", (0,), 2), 2), (("rest", (0,), 2, 1), 2),
             (("rest", (0,), 3, 1), 1), (("not", ("least", (1,), 1)), 2),
             (("both", ("least", (0,), 1), ("least", (1,), 1)), 3)]
    return [made_given(question, sorts) for question, sorts in asked]


class Carried(unittest.TestCase):
    def look_at(self, given, rule):
        """Carry a paper to a rule that made fewer is the given one."""
        question, few, paper = given[1:]
        self.assertTrue(is_rule(rule))
        self.assertEqual(fewer(rule)[0], given[0])
        before = repr((rule, paper))
        new = carried(rule, paper)
        self.assertEqual(repr((rule, paper)), before)
        self.assertIs(lets_paper(rule, question, few, new), True, (rule, question))
        stages, facts, ranks, deep = bounds_of(new)
        self.assertTrue(stages <= 80 and facts <= 24 and ranks <= 4 and deep <= 30)
        self.assertIs(lets_paper(rule, ("not", question), few, new), False)
        if few > 1:
            self.assertIs(lets_paper(rule, question, few - 1, new), False)
        return new

    def test_rooms_told_twice(self):
        # Each of two rooms again: hands go now to the one, now to the other.
        rule = (4, (0,), ((0, 0, 2, 1), (0, 1, 3, 1), (0, 2, 2, 3), (0, 3, 1, 1), (1, 2, 1, 3), (1, 3, 1, 1), (2, 2, 0, 3),
                          (2, 3, 3, 3)), (False, True, False, True))
        self.look_at(two_paper(), rule)
        for n in (2, 9):
            self.look_at(few_paper(n), rule)

    def test_rooms_that_nobody_comes_to(self):
        rule = (4, (1,), ((0, 0, 1, 1), (0, 1, 2, 3), (0, 2, 0, 0), (0, 3, 3, 1), (1, 1, 1, 3), (1, 2, 0, 0), (1, 3, 3, 3),
                          (2, 2, 1, 3), (2, 3, 0, 1)), (True, False, False, True))
        self.assertEqual(fewer(rule)[1], (None, 0, None, 1))
        self.look_at(two_paper(), rule)
        for rooms in range(1, 13):
            alone = (rooms, (rooms - 1,), ((0, 0, rooms - 1, rooms - 1),) if rooms > 1 else (), (False,) * (rooms - 1) + (True,))
            self.look_at(alone_paper(3), alone)

    def test_hands_exchanged(self):
        rule = (2, (0,), ((0, 0, 1, 0), (0, 1, 1, 1)), (False, True))
        self.look_at(two_paper(), rule)
        rule = (3, (0,), ((0, 0, 1, 1), (0, 1, 2, 0), (1, 2, 1, 1)), ODD[3])
        self.look_at(odd_paper(), rule)

    def test_rooms_of_one_part_that_meet(self):
        # Hands change from room to room, and all say True.
        rule = (3, (0,), ((0, 0, 0, 1), (0, 1, 2, 2), (1, 1, 0, 2), (1, 2, 0, 0), (2, 2, 1, 1)), (True, True, True))
        self.assertEqual(fewer(rule), (ALONE, (0, 0, 0)))
        for n in (1, 5, 9):
            self.look_at(alone_paper(n), rule)
        # Two of one part meet, and one of them turns for good.
        rule = (3, (0,), ((0, 0, 1, 2), (0, 1, 2, 1), (0, 2, 2, 2), (1, 1, 2, 0), (1, 2, 2, 2)), (False, False, True))
        self.assertEqual(fewer(rule), (TWO, (0, 0, 1)))
        self.look_at(two_paper(), rule)
        self.look_at(few_paper(3), rule)

    def test_rules_that_stay(self):
        for given in hand_papers() + told_givens():
            if stays_as_it_is(given):
                self.look_at(given, given[0])

    def test_rules_by_dice(self):
        for given in hand_papers() + told_givens():
            if stays_as_it_is(given):
                for rooms in sorted({given[0][0], given[0][0] + 1, given[0][0] + 3, 9, 12}):
                    for rule in grown_rules(rooms, given[0], rooms, 2):
                        new = self.look_at(given, rule)
                        if rooms > given[0][0]:
                            self.assertIs(lets_paper(given[0], given[1], given[2], new), False)

    def test_deep_and_wide_papers(self):
        dice = random.Random(33)
        for given in (two_paper(), odd_paper(), few_paper(2), alone_paper(2)):
            rows = lambda truth: rows_of(given[0][0], len(given[0][1]), given[1], truth)
            nought = (0, (0,) * given[0][0], (0,) * len(given[0][1]))
            heavy = with_facts(given, rows, 12, ("least", nought), lambda many: (ones(many),))
            heavy = deepened(heavy, rows, 10, dice)
            self.assertIs(lets_paper(*heavy), True)
            for rooms in (given[0][0] + 1, 12):
                for rule in grown_rules(rooms, given[0], rooms, 3):
                    self.look_at(heavy, rule)

    def test_twenty_four_facts_and_rooms_that_nobody_comes_to(self):
        one, two = made_given(("least", (0,), 1), 3), made_given(("least", (1,), 1), 3)
        question = ("both", one[1], two[1])
        given = (made(question, 3), question, 1, put_together("both", one, two))
        self.assertTrue(stays_as_it_is(given))
        rows = lambda truth: rows_of(4, 3, question, truth)
        for fact, shown in ((("least", (0, (0,) * 4, (0, 0, 0))), lambda many: (ones(many),)),
                            (("least", (7, (0,) * 4, (1, 2, 3))), lambda many: (ones(many),)),
                            (("rest", (6, (0,) * 4, (3, 3, 0)), 3), lambda many: (("rest", 3, ((many, 1),)),) * 2),
                            (None, None)):
            wide = with_facts(given, rows, 24, fact, shown)
            self.assertEqual(bounds_of(wide[3])[1], 24)
            self.assertIs(lets_paper(*wide), True)
            for rule in grown_rules(24, given[0], 6, 4):
                self.look_at(wide, rule)

    def test_turned_and_carried(self):
        given = two_paper()
        new = (given[0][:3] + ((True, False),), ("not", given[1]), 1, turned_paper(given[3]))
        for rule in grown_rules(2, new[0], 5, 3):
            self.look_at(new, rule)

    def test_along_walks(self):
        given = odd_paper()
        for rule in grown_rules(7, given[0], 7, 3):
            paper = carried(rule, given[3])
            for counts in ((1,), (2,), (15,), (60,), (1001,)):
                walks_by(self, rule, given[1], paper, counts, 60, 2)


if __name__ == "__main__":
    unittest.main()
