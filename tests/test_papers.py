"""Papers of made rules, and papers turned [31, 32]."""

import itertools
import random
import unittest

from passersby.errors import TooMany
from passersby.making import made, rooms_for, turned
from passersby.paperchecker import lets_paper
from passersby.papers import paper_of, turned_paper
from passersby.questions import is_question
from tests.samples import bounds_of, drawn_question, hand_papers, walks_by


def some_sorts(sorts):
    return [some for many in range(1, sorts + 1) for some in itertools.combinations(range(sorts), many)]


class PaperOf(unittest.TestCase):
    def look_at(self, question, sorts):
        self.assertTrue(is_question(sorts, question))
        rule, paper = made(question, sorts), paper_of(question, sorts)
        self.assertIs(lets_paper(rule, question, 1, paper), True, question)
        self.assertIs(lets_paper(rule, ("not", question), 1, paper), False, question)
        self.assertIs(lets_paper(turned(rule), question, 1, paper), False, question)
        stages, facts, ranks, deep = bounds_of(paper)
        self.assertTrue(stages <= 80 and facts <= 24 and ranks <= 4 and deep <= 30)

    def test_least(self):
        for n in range(1, 10):
            for sorts in range(1, 5):
                for some in some_sorts(sorts) if n in (1, 9) else [(sorts - 1,), tuple(range(sorts))]:
                    self.look_at(("least", some, n), sorts)

    def test_more(self):
        for sorts in range(1, 5):
            for sides in itertools.product((0, 1, 2), repeat=sorts):
                these, those = (tuple(sort for sort in range(sorts) if sides[sort] == side) for side in (1, 2))
                self.look_at(("more", these, those), sorts)

    def test_rest(self):
        for m in range(2, 10):
            for r in range(m):
                self.look_at(("rest", (0,), m, r), 1)
        for sorts, some in ((2, (1,)), (3, (0, 2)), (4, (0, 1, 2, 3))):
            for m in (2, 3, 4):
                self.look_at(("rest", some, m, m - 1), sorts)

    def test_not(self):
        for question in (("least", (0,), 2), ("more", (0,), (1,)), ("rest", (0, 1), 3, 1)):
            for deep in range(3):
                question = ("not", question)
                self.look_at(question, 2)

    def test_pairs(self):
        plain = [("least", (0,), n) for n in range(1, 6)] + [("more", (0,), (1,)), ("more", (), (1,)), ("more", (), ())]
        plain += [("rest", (0, 1), m, r) for m in (2, 3, 4) for r in (0, m - 1)]
        for one, other in itertools.product(plain, repeat=2):
            for word in ("both", "either"):
                question = (word, one, other)
                if rooms_for(question) <= 12:
                    self.look_at(question, 2)
                else:
                    with self.assertRaises(TooMany):
                        paper_of(question, 2)

    def test_seven_questions_and_four_deep(self):
        one, two, all_two = ("least", (0,), 1), ("least", (1,), 2), ("least", (0, 1), 2)
        other = ("least", (1,), 1)
        for question in (("both", ("either", one, other), two), ("either", one, ("both", other, all_two)),
                         ("both", ("not", ("either", one, other)), ("not", two)),
                         ("not", ("both", one, ("either", other, all_two))),
                         ("either", ("both", one, other), ("not", ("not", one))),
                         ("not", ("either", ("not", one), ("both", other, one))),
                         ("both", one, ("both", one, one)), ("either", ("either", two, other), one)):
            self.look_at(question, 2)
        self.look_at(("both", ("not", ("not", ("least", (3,), 1))), ("not", ("not", ("rest", (0, 2), 4, 3)))), 4)

    def test_drawn_questions(self):
        dice = random.Random(31)
        right = wrong = 0
        for again in range(500):
            sorts = dice.randrange(1, 5)
            question = drawn_question(dice, sorts)
            if rooms_for(question) > 12:
                wrong += 1
                with self.assertRaises(TooMany):
                    paper_of(question, sorts)
            elif right < 60:
                right += 1
                self.look_at(question, sorts)
        self.assertGreater(wrong, 50)
        self.assertEqual(right, 60)

    def test_just_where_there_are_more_than_twelve_rooms(self):
        for question, rooms in ((("rest", (0,), 9, 8), 11), (("both", ("least", (0,), 2), ("more", (0,), ())), 12),
                                (("either", ("least", (0,), 5), ("least", (0,), 1)), 12)):
            self.assertEqual(rooms_for(question), rooms)
            self.look_at(question, 1)
        for question in (("both", ("least", (0,), 6), ("least", (0,), 1)), ("either", ("more", (0,), ()), ("more", (0,), ())),
                         ("not", ("both", ("least", (0,), 6), ("least", (0,), 1))),
                         ("both", ("rest", (0,), 9, 0), ("rest", (0,), 9, 1))):
            with self.assertRaises(TooMany):
                paper_of(question, 1)

    def test_a_lesser_few_alone(self):
        # For few 1, so for any.
        question = ("both", ("more", (0,), (1,)), ("least", (0,), 2))
        for few in range(1, 10):
            self.assertIs(lets_paper(made(question, 2), question, few, paper_of(question, 2)), True)

    def test_along_walks(self):
        for question in (("both", ("more", (0,), (1,)), ("least", (1,), 2)), ("either", ("rest", (0,), 3, 1), ("least", (1,), 1)),
                         ("not", ("either", ("both", ("least", (0,), 1), ("least", (1,), 1)), ("least", (0, 1), 2)))):
            rule, paper = made(question, 2), paper_of(question, 2)
            for counts in ((1, 0), (0, 1), (2, 2), (9, 8), (30, 31), (400, 300)):
                walks_by(self, rule, question, paper, counts, 60, 2)

    def test_the_same_each_time(self):
        for question in (("least", (0,), 3), ("both", ("least", (0,), 1), ("rest", (0,), 2, 1))):
            told = paper_of(question, 1)
            paper_of(("least", (0,), 2), 1)
            self.assertEqual(paper_of(question, 1), told)

    def test_tuples_all_through(self):
        def look(thing):
            self.assertIn(type(thing), (tuple, int, str, bool))
            if type(thing) is tuple:
                for part in thing:
                    look(part)

        look(paper_of(("both", ("more", (0,), (1,)), ("least", (1,), 2)), 2))
        look(paper_of(("not", ("rest", (0,), 3, 1)), 2))


class Turned(unittest.TestCase):
    def test_told_papers(self):
        for question in (("least", (0,), 2), ("more", (0,), (1,)), ("rest", (0,), 3, 1),
                         ("both", ("least", (0,), 1), ("more", (), (1,))), ("not", ("rest", (1,), 2, 0))):
            rule, paper = made(question, 2), paper_of(question, 2)
            for again in range(3):
                before = repr(paper)
                new = turned_paper(paper)
                self.assertEqual(repr(paper), before)
                self.assertIs(lets_paper(turned(rule), ("not", question), 1, new), True)
                self.assertIs(lets_paper(rule, ("not", question), 1, new), False)
                self.assertIs(lets_paper(turned(rule), question, 1, new), False)
                self.assertIs(lets_paper(rule, question, 1, new), False)
                if again == 0:
                    rule, question, paper = turned(rule), ("not", question), new

    def test_by_hand(self):
        for rule, question, few, paper in hand_papers():
            new = turned_paper(paper)
            self.assertIs(lets_paper(turned(rule), ("not", question), few, new), True)
            self.assertIs(lets_paper(rule, question, few, new), False)
            self.assertEqual(turned_paper(new), paper)
            if few > 1:
                self.assertIs(lets_paper(turned(rule), ("not", question), few - 1, new), False)


if __name__ == "__main__":
    unittest.main()
