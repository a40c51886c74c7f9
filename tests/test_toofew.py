"""All rules of so few rooms, and that none of them answers [4, 22]."""

import itertools
import unittest

from passersby.errchecker import lets_err
from passersby.errors import NoPaper
from passersby.errs import err_at, err_of
from passersby.rules import is_rule
from passersby.settling import answers
from passersby.toofew import lets_none, none_of, rules_of
from tests.samples import beginnings_of, changed_at, nested, strange_things

TWO = ("least", (0,), 2)
THREE = ("least", (0,), 3)
MORE_OF_TWO = ("more", (0,), (1,))


def plain_rules(sorts, rooms):
    """By the plain words of [22]: of all things that might be such rules those that are."""
    pairs = [(a, b) for a in range(rooms) for b in range(rooms)]
    meetings = [one + other for one in pairs for other in pairs if other[0] <= other[1]]
    meets = [told for many in range(4) for told in itertools.combinations(meetings, many)]
    things = itertools.product([rooms], itertools.product(range(rooms), repeat=sorts), meets,
                               itertools.product((False, True), repeat=rooms))
    return sorted(thing for thing in things if is_rule(thing))


class Rules(unittest.TestCase):
    def test_all_of_them(self):
        for sorts, rooms, many in ((1, 1, 2), (2, 1, 2), (1, 2, 216), (2, 2, 432)):
            told = rules_of(sorts, rooms)
            self.assertIs(type(told), list)
            self.assertEqual(len(told), many)
            self.assertEqual(told, plain_rules(sorts, rooms))
            self.assertEqual(len(set(told)), many)
            self.assertEqual({type(rule) for rule in told}, {tuple})

    def test_first_and_last(self):
        self.assertEqual(rules_of(1, 1), [(1, (0,), (), (False,)), (1, (0,), (), (True,))])
        told = rules_of(2, 2)
        self.assertEqual(told[0], (2, (0, 0), (), (False, False)))
        self.assertEqual(told[-1], (2, (1, 1), ((1, 1, 0, 1),), (True, True)))

    def test_the_askers_own(self):
        told = rules_of(1, 2)
        told.clear()
        self.assertEqual(len(rules_of(1, 2)), 216)


class NoneOf(unittest.TestCase):
    def test_the_first_rule_that_does_not_err(self):
        seen = {"rule": 0, "none": 0}
        asked = [(question, sorts, rooms, most)
                 for question in (TWO, THREE, ("least", (0,), 1), ("rest", (0,), 2, 1), ("not", TWO), ("more", (), ()))
                 for sorts in (1, 2) for rooms in (1, 2) for most in (1, 2, 3)]
        asked += [(question, 2, 2, most)
                  for question in (MORE_OF_TWO, ("least", (1,), 1), ("least", (0, 1), 2), ("not", MORE_OF_TWO))
                  for most in (1, 2, 4, 5)]
        for question, sorts, rooms, most in asked:
            told = none_of(question, sorts, rooms, most)
            rules = rules_of(sorts, rooms)
            right = [rule for rule in rules if err_of(rule, question, most) is None]
            self.assertEqual((type(told), len(told)), (tuple, 2))
            seen[told[0]] += 1
            if right:
                self.assertEqual(told, ("rule", right[0]))
                self.assertTrue(all(answers(right[0], question, counts) for counts in beginnings_of(sorts, most)))
                continue
            self.assertEqual(told[0], "none")
            self.assertIs(type(told[1]), tuple)
            self.assertEqual(len(told[1]), len(rules))
            for rule, paper in zip(rules, told[1]):
                self.assertIs(lets_err(rule, question, paper), True)
                self.assertLessEqual(sum(paper[0]), most)
            self.assertIs(lets_none(question, sorts, rooms, told[1]), True)
        self.assertTrue(all(many > 5 for many in seen.values()), seen)

    def test_plain_ones(self):
        self.assertEqual(none_of(TWO, 1, 1, 1), ("rule", (1, (0,), (), (False,))))
        self.assertEqual(none_of(TWO, 1, 1, 2),
                         ("none", (((2,), (), (((2,), 0),)), ((1,), (), (((1,), 0),)))))
        self.assertEqual(none_of(("least", (0,), 1), 1, 1, 5), ("rule", (1, (0,), (), (True,))))
        self.assertEqual(none_of(TWO, 1, 2, 5)[0], "rule")
        self.assertEqual(none_of(THREE, 1, 2, 5)[0], "none")
        self.assertEqual(none_of(MORE_OF_TWO, 2, 2, 5)[0], "none")

    def test_of_so_few_rooms_none_answers(self):
        for question, sorts in ((THREE, 1), (("rest", (0,), 3, 1), 1), (MORE_OF_TWO, 2)):
            papers = none_of(question, sorts, 2, 5)[1]
            for rule, paper in zip(rules_of(sorts, 2), papers):
                self.assertIs(answers(rule, question, paper[0]), False)


class LetsNone(unittest.TestCase):
    def setUp(self):
        self.papers = none_of(THREE, 1, 2, 4)[1]
        self.rules = rules_of(1, 2)

    def told(self, thing):
        answer = lets_none(THREE, 1, 2, thing)
        self.assertIn(answer, (True, False))
        self.assertIs(type(answer), bool)
        return answer

    def test_told_papers(self):
        self.assertIs(self.told(self.papers), True)
        self.assertIs(lets_none(("not", ("not", THREE)), 1, 2, self.papers), True)

    def test_greater_beginnings(self):
        for place, rule in enumerate(self.rules):
            for hands in (3, 7, 60):
                paper = err_at(rule, THREE, (hands,))
                if paper is not None:
                    self.assertIs(self.told(changed_at(self.papers, place, paper)), True)
        sixty = [place for place, rule in enumerate(self.rules) if err_at(rule, THREE, (60,)) is not None]
        self.assertGreater(len(sixty), 20)
        paper = err_at(self.rules[sixty[0]], THREE, (61,))
        self.assertIs(self.told(changed_at(self.papers, sixty[0], paper)), False)

    def test_left_out_and_too_many(self):
        self.assertIs(self.told(self.papers[1:]), False)
        self.assertIs(self.told(self.papers[:-1]), False)
        self.assertIs(self.told(self.papers + self.papers[-1:]), False)
        self.assertIs(self.told(self.papers[:1] + self.papers), False)
        self.assertIs(self.told(()), False)

    def test_two_exchanged(self):
        wrong = 0
        for place in range(len(self.papers) - 1):
            one, other = self.papers[place:place + 2]
            thing = self.papers[:place] + (other, one) + self.papers[place + 2:]
            right = all(lets(rule, paper) for rule, paper in zip(self.rules, thing))
            self.assertIs(self.told(thing), right)
            wrong += not right
        self.assertGreater(wrong, 20)

    def test_one_bent(self):
        for place in (0, 1, 100, len(self.papers) - 1):
            counts, numbers, ranks = self.papers[place]
            for paper in (None, (), (counts, numbers, ()), (counts, numbers + (99,), ranks), [counts, numbers, ranks],
                          (counts, list(numbers), ranks), ((True,), numbers, ranks), ((0,), numbers, ranks)):
                self.assertIs(self.told(changed_at(self.papers, place, paper)), False)

    def test_of_another_kind_or_question(self):
        self.assertIs(self.told(list(self.papers)), False)
        self.assertIs(self.told(("none", self.papers)), False)
        self.assertIs(lets_none(("least", (0,), 1), 1, 2, self.papers), False)
        self.assertIs(lets_none(THREE, 2, 2, self.papers), False)
        self.assertIs(lets_none(THREE, 1, 1, self.papers), False)

    def test_any_thing(self):
        for thing in strange_things():
            self.assertIs(self.told(thing), False, thing)
            self.assertIs(self.told((thing,) * 216), False)
            self.assertIs(self.told(changed_at(self.papers, 215, thing)), False)
        for kind in (tuple, list):
            deep = nested(kind, 197, 0)
            for paper in (deep, (deep, (), ()), ((3,), deep, ()), ((3,), (), deep)):
                self.assertIs(self.told(changed_at(self.papers, 7, paper)), False)

    def test_nothing_is_changed(self):
        thing = list(self.papers)
        before = repr((thing, THREE))
        self.told(thing)
        none_of(THREE, 1, 2, 3)
        self.assertEqual(repr((thing, THREE)), before)


def lets(rule, paper):
    try:
        return lets_err(rule, THREE, paper)
    except NoPaper:
        return False


if __name__ == "__main__":
    unittest.main()
