"""Papers of two rules put together to one of the rules side by side [34]."""

import itertools
import random
import unittest

from passersby.asked import rows_of
from passersby.beside import beside
from passersby.carrying import carried
from passersby.making import made, rooms_for, turned
from passersby.paperchecker import lets_paper
from passersby.papers import paper_of, turned_paper
from passersby.questions import is_question
from passersby.together import put_together
from tests.samples import (
    TELLING, alone_paper, bounds_of, deepened, drawn_question, few_paper, grown_rules, hand_papers, odd_paper, ones,
    telling_paper, two_paper, walks_by, with_facts, with_stages)

WORDS = ("both", "either")


def made_given(question, sorts):
    return (made(question, sorts), question, 1, paper_of(question, sorts))


def turned_given(given):
    return (turned(given[0]), ("not", given[1]), given[2], turned_paper(given[3]))


def pair_of(word, one, other):
    """What is put together, with the rules side by side, as one may be put together again."""
    few = max(one[2], other[2])
    return (beside(one[0], other[0], word), (word, one[1], other[1]), few, put_together(word, one, other))


def heavy(given, stages, facts=12, deep=10, seed=34, again=False):
    """The same paper with so many stages, facts, and trees and refutations within one another."""
    rows = lambda truth: rows_of(given[0][0], len(given[0][1]), given[1], truth)
    nought = (0, (0,) * given[0][0], (0,) * len(given[0][1]))
    if again:
        given = with_facts(given, rows, facts, None, None)
    else:
        given = with_facts(given, rows, facts, ("least", nought), lambda many: (ones(many),))
    return deepened(with_stages(given, stages), rows, deep, random.Random(seed))


class Together(unittest.TestCase):
    def look_at(self, word, one, other):
        before = repr((one, other))
        pair = pair_of(word, one, other)
        rule, question, few, paper = pair
        self.assertEqual(repr((one, other)), before)
        self.assertLessEqual(rule[0], 12)
        self.assertTrue(is_question(len(rule[1]), question))
        self.assertIs(lets_paper(*pair), True, question)
        stages, facts, ranks, deep = bounds_of(paper)
        self.assertEqual(stages, len(one[3][1]) * len(other[3][1]))
        self.assertTrue(stages <= 80 and facts <= 24 and ranks <= 4 and deep <= 30)
        self.assertIs(lets_paper(rule, ("not", question), few, paper), False)
        return pair

    def test_told_papers(self):
        asked = [("least", (0,), 1), ("least", (1,), 2), ("least", (0, 1), 3), ("more", (0,), (1,)), ("rest", (0,), 2, 1),
                 ("rest", (0, 1), 3, 0), ("least", (1,), 5)]
        for one, other in itertools.product(asked, repeat=2):
            for word in WORDS:
                if made(one, 2)[0] * made(other, 2)[0] <= 12:
                    pair = self.look_at(word, made_given(one, 2), made_given(other, 2))
                    self.assertEqual(pair[0], made((word, one, other), 2))
                    opposite = "either" if word == "both" else "both"
                    self.assertIs(lets_paper(pair[0], (opposite, one, other), 1, pair[3]), False)

    def test_by_hand(self):
        # Of unlike few, with on stages and without, with one end and with several.
        given = hand_papers()
        pairs = 0
        for one, other in itertools.product(given, repeat=2):
            if len(one[0][1]) == len(other[0][1]) and one[0][0] * other[0][0] <= 12:
                for word in WORDS:
                    pair = self.look_at(word, one, other)
                    pairs += 1
                    if pair[2] > 1 and word == "both":
                        self.assertIs(lets_paper(pair[0], pair[1], pair[2] - 1, pair[3]), False)
        self.assertGreater(pairs, 100)

    def test_by_hand_with_told_ones(self):
        for one in (two_paper(), odd_paper(), few_paper(4), alone_paper(2), turned_given(two_paper())):
            for question in (("least", (0,), 1), ("least", (0,), 2), ("rest", (0,), 2, 0), ("more", (0,), ())):
                other = made_given(question, 1)
                if one[0][0] * other[0][0] <= 12:
                    for word in WORDS:
                        self.look_at(word, one, other)
                        self.look_at(word, other, one)
        for question in (("least", (0,), 2), ("least", (0, 1), 1)):
            for word in WORDS:
                self.look_at(word, telling_paper(), made_given(question, 2))
                self.look_at(word, made_given(question, 2), telling_paper())

    def test_each_truth_of_both(self):
        # One always says True or False, so the other one or this one alone decides.
        yes, no = alone_paper(1), turned_given(alone_paper(1))
        for one, other in itertools.product((yes, no, two_paper(), turned_given(two_paper())), repeat=2):
            for word in WORDS:
                self.look_at(word, one, other)

    def test_turned(self):
        for one, other in ((two_paper(), odd_paper()), (few_paper(2), two_paper())):
            for word in WORDS:
                for first, second in itertools.product((one, turned_given(one)), (other, turned_given(other))):
                    self.look_at(word, first, second)
                    pair = turned_given(self.look_at(word, first, second))
                    self.assertIs(lets_paper(*pair), True)

    def test_up_to_eighty_stages(self):
        for one, other, many, more in ((two_paper(), odd_paper(), 8, 10), (odd_paper(), two_paper(), 10, 8),
                                       (alone_paper(2), odd_paper(), 12, 6), (few_paper(3), few_paper(2), 8, 10)):
            for word in WORDS:
                self.look_at(word, with_stages(one, many), with_stages(other, more))

    def test_twelve_facts_and_ten_within_one_another(self):
        for one, other in ((two_paper(), odd_paper()), (odd_paper(), odd_paper()), (few_paper(2), two_paper()),
                           (alone_paper(3), two_paper()), (odd_paper(), alone_paper(1))):
            for again in (False, True):
                self.look_at("both", heavy(one, 8, again=again), heavy(other, 8, again=again))
                self.look_at("either", heavy(one, 6, seed=1), heavy(other, 12, seed=2))
        self.look_at("both", heavy(telling_paper(), 8), heavy(made_given(("least", (1,), 2), 2), 10))

    def test_many_rooms_on_the_other_side(self):
        one = heavy(two_paper(), 3)
        for question in (("least", (0,), 5), ("rest", (0,), 4, 1)):
            other = made_given(question, 1)
            for word in WORDS:
                self.look_at(word, one, other)
                self.look_at(word, other, one)

    def test_a_third_one(self):
        one, two = two_paper(), made_given(("least", (0,), 1), 1)
        for third in (odd_paper(), made_given(("least", (0,), 2), 1), two_paper(), few_paper(5), alone_paper(2)):
            for word, again in itertools.product(WORDS, repeat=2):
                pair = self.look_at(word, one, two)
                self.look_at(again, pair, third)
                self.look_at(again, third, pair)
                self.look_at(again, turned_given(pair), third)

    def test_a_third_one_of_many_facts(self):
        one, two = heavy(two_paper(), 3), heavy(few_paper(2), 2)
        for again in (False, True):
            third = heavy(odd_paper(), 4, again=again)
            pair = self.look_at("both", one, two)
            self.assertEqual(bounds_of(pair[3])[1], 24)
            self.look_at("either", pair, third)
            self.look_at("both", third, pair)

    def test_a_fourth_one(self):
        yes = alone_paper(1)
        for words in itertools.product(WORDS, repeat=3):
            pair = self.look_at(words[0], yes, two_paper())
            pair = self.look_at(words[1], pair, few_paper(2))
            self.look_at(words[2], pair, alone_paper(2))
            self.look_at(words[2], self.look_at(words[0], yes, two_paper()), self.look_at(words[1], yes, odd_paper()))

    def test_four_of_many_facts(self):
        one, two, three = heavy(alone_paper(1), 2), heavy(two_paper(), 3), heavy(few_paper(2), 2)
        four = heavy(alone_paper(2), 2, again=True)
        for words in (("both", "both", "either"), ("either", "both", "both"), ("either", "either", "either")):
            pair = self.look_at(words[0], one, two)
            self.look_at(words[2], self.look_at(words[1], pair, three), four)
            self.look_at(words[2], pair, self.look_at(words[1], three, four))

    def test_drawn_rows_of_steps(self):
        # Papers turned, carried and put together, one behind the other.
        dice = random.Random(35)
        done = {"turn": 0, "carry": 0, "pair": 0}
        for again in range(120):
            given = self.drawn_given(dice)
            for step in range(dice.randrange(2, 6)):
                word = dice.choice(("turn", "carry", "pair", "pair"))
                new = self.drawn_step(dice, word, given)
                if new is not None:
                    given = new
                    done[word] += 1
                    self.assertIs(lets_paper(*given), True, given[:3])
        self.assertGreater(min(done.values()), 30)

    def drawn_given(self, dice):
        """A paper by hand, perhaps a heavy one, or a told one."""
        if dice.random() < 0.4:
            sorts = dice.choice((1, 2))
            question = drawn_question(dice, sorts)
            return made_given(question, sorts) if rooms_for(question) <= 6 else self.drawn_given(dice)
        given = dice.choice(hand_papers())
        if dice.random() < 0.4:
            return given
        stages = dice.randrange(len(given[3][1]), 13)
        return heavy(given, stages, dice.randrange(3, 13), dice.randrange(1, 11), dice.random(), dice.random() < 0.5)

    def drawn_step(self, dice, word, given):
        """What comes of a paper by one step, None where it can't be taken."""
        sorts = len(given[0][1])
        if word == "turn":
            return turned_given(given) if is_question(sorts, ("not", given[1])) else None
        if word == "carry":
            rules = grown_rules(dice.random(), given[0], dice.randrange(given[0][0], 13), 1)
            return (rules[0],) + given[1:3] + (carried(rules[0], given[3]),) if rules else None
        other = self.drawn_given(dice)
        word = dice.choice(WORDS)
        if len(other[0][1]) != sorts or not is_question(sorts, (word, given[1], other[1])):
            return None
        if given[0][0] * other[0][0] > 12 or len(given[3][1]) * len(other[3][1]) > 80:
            return None
        return self.look_at(word, given, other)

    def test_along_walks(self):
        pair = pair_of("either", odd_paper(), two_paper())
        for counts in ((1,), (2,), (3,), (50,), (1001,)):
            walks_by(self, pair[0], pair[1], pair[3], counts, 60, 2)
        pair = pair_of("both", telling_paper(), made_given(("least", (1,), 2), 2))
        self.assertEqual(pair[0][0], 3 * TELLING[0])
        for counts in ((1, 0), (0, 3), (5, 5), (40, 1)):
            walks_by(self, pair[0], pair[1], pair[3], counts, 60, 2)


if __name__ == "__main__":
    unittest.main()
