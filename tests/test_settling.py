"""Settled crowds, and rules that answer [4, 15]."""

import unittest

from passersby.crowds import begun
from passersby.errors import TooMany
from passersby.making import made, rooms_for, turned
from passersby.questions import holds
from passersby.settling import answers, settled
from tests.samples import (ALONE, A_THOUSAND, FORK, MORE, ONE_MORE, ROCKING, ROOMY, THREE_LINES, all_bent_rules,
                           beginnings_of, closure, deep_questions, plainly_answers, question_of, words_in)


def plainly_settled(rule, crowd):
    """By the plain words of [15]."""
    words = words_in(rule, closure(rule, crowd))
    return words.pop() if len(words) == 1 else None


class Settled(unittest.TestCase):
    def test_to_true_to_false_to_neither(self):
        for rule, crowd, told in (
            (MORE, (0, 0, 1, 0), True), (MORE, (2, 0, 1, 0), True), (MORE, (0, 0, 5, 0), True),
            (MORE, (0, 0, 0, 1), False), (MORE, (0, 3, 0, 2), False), (MORE, (0, 1, 0, 0), False),
            (MORE, (1, 1, 0, 0), None), (MORE, (0, 0, 1, 1), None), (MORE, (0, 3, 1, 0), None),
            (ALONE, (7,), True), (turned(ALONE), (7,), False),
            (ROCKING, (1, 0, 0), True), (ROCKING, (0, 0, 2), False), (ROCKING, (0, 1, 1), None),
        ):
            self.assertIs(settled(rule, crowd), told, (rule, crowd))

    def test_all_say_so_now_but_not_always(self):
        self.assertIsNone(settled(ROCKING, (0, 3, 0)))
        self.assertIsNone(settled(ROCKING, (2, 0, 0)))
        self.assertIs(settled((2, (0,), ((0, 0, 0, 1),), (True, True)), (2, 0)), True)
        self.assertIsNone(settled((2, (0,), ((0, 0, 0, 1),), (False, True)), (2, 0)))
        self.assertIsNone(settled((2, (0,), ((0, 0, 1, 1),), (False, True)), (2, 0)))

    def test_against_a_plain_going_through(self):
        seen = {True: 0, False: 0, None: 0}
        for rule in all_bent_rules() + [ROOMY]:
            for counts in beginnings_of(len(rule[1]), 4):
                for crowd in closure(rule, begun(rule, counts)):
                    told = settled(rule, crowd)
                    self.assertIs(told, plainly_settled(rule, crowd), (rule, crowd))
                    seen[told] += 1
        self.assertTrue(all(many > 100 for many in seen.values()), seen)


class Answers(unittest.TestCase):
    def test_made_rules(self):
        questions = deep_questions() + [("least", (1,), 3), ("more", (0, 1), ()), ("rest", (1,), 4, 3)]
        for question in [question for question in questions if rooms_for(question) <= 40]:
            rule = made(question, 2)
            for counts in beginnings_of(2, 3):
                self.assertIs(answers(rule, question, counts, 3000), True, (question, counts))
                self.assertIs(answers(turned(rule), question, counts, 3000), False, (question, counts))
                self.assertIs(answers(rule, ("not", question), counts, 3000), False, (question, counts))

    def test_greater_crowds(self):
        question = ("more", (0,), (1,))
        for counts in ((9, 8), (8, 8), (7, 8)):
            self.assertIs(answers(MORE, question, counts), True)
        self.assertIs(answers(made(("least", (0,), 2), 1), ("least", (0,), 2), (60,)), True)
        self.assertIs(answers(made(("least", (0,), 3), 1), ("least", (0,), 4), (3,)), False)

    def test_what_is_never_settled(self):
        for hands in (2, 3, 6):
            for question in (("least", (0,), 1), ("least", (0,), 9)):
                self.assertIs(answers(ROCKING, question, (hands,)), False)
        self.assertIs(answers(ROCKING, ("least", (0,), 1), (1,)), True)
        self.assertIs(answers(ROCKING, ("least", (0,), 2), (1,)), False)

    def test_one_wrong_end_is_enough(self):
        self.assertIs(settled(FORK, (0, 4, 0)), True)
        for hands, told in ((1, True), (2, True), (3, False), (4, False)):
            self.assertIs(answers(FORK, ("least", (0,), 1), (hands,)), told)
            self.assertIs(answers(FORK, ("least", (0,), 9), (hands,)), False)

    def test_against_a_plain_going_through(self):
        seen = {True: 0, False: 0}
        for rule in all_bent_rules():
            question = question_of(len(rule[1]))
            for counts in beginnings_of(len(rule[1]), 4):
                told = answers(rule, question, counts)
                self.assertIs(told, plainly_answers(rule, counts, holds(question, counts)), (rule, counts))
                seen[told] += 1
        self.assertTrue(all(many > 100 for many in seen.values()), seen)


class Limits(unittest.TestCase):
    def test_just_as_many_and_one_more(self):
        for rule in all_bent_rules():
            question = question_of(len(rule[1]))
            for counts in beginnings_of(len(rule[1]), 3):
                crowd = begun(rule, counts)
                many = len(closure(rule, crowd))
                self.assertIs(settled(rule, crowd, many), settled(rule, crowd))
                self.assertIs(answers(rule, question, counts, many), answers(rule, question, counts))
                if many > 1:
                    for asked in (lambda: settled(rule, crowd, many - 1),
                                  lambda: answers(rule, question, counts, many - 1)):
                        with self.assertRaises(TooMany):
                            asked()

    def test_a_thousand_where_it_is_left_out(self):
        question = ("least", (0,), 2)
        self.assertIsNone(settled(THREE_LINES, begun(THREE_LINES, A_THOUSAND)))
        self.assertIs(answers(THREE_LINES, question, A_THOUSAND), False)
        self.assertIs(answers(THREE_LINES, ("not", question), A_THOUSAND), True)
        for asked in (lambda: settled(THREE_LINES, begun(THREE_LINES, ONE_MORE)),
                      lambda: answers(THREE_LINES, question, ONE_MORE)):
            with self.assertRaises(TooMany):
                asked()
        self.assertIs(answers(THREE_LINES, question, ONE_MORE, 1001), False)
        self.assertIsNone(settled(THREE_LINES, begun(THREE_LINES, ONE_MORE), 3000))


if __name__ == "__main__":
    unittest.main()
