"""Err papers told, and the first beginning at which a rule errs [4, 18]."""

import unittest

from passersby.crowds import begun
from passersby.errchecker import lets_err
from passersby.errors import TooMany
from passersby.errs import err_at, err_of
from passersby.making import made, turned
from passersby.questions import holds
from passersby.settling import answers
from tests.samples import (A_THOUSAND, MORE, ONE_MORE, ROCKING, THREE_LINES, all_bent_rules, bent_rules, beginnings_of,
                           closure, plainly_answers, question_of)


class ErrAt(unittest.TestCase):
    def test_let_by_just_where_the_rule_does_not_answer(self):
        papers, walked = 0, 0
        for rule in all_bent_rules():
            question = question_of(len(rule[1]))
            for counts in beginnings_of(len(rule[1]), 4):
                paper = err_at(rule, question, counts)
                right = plainly_answers(rule, counts, holds(question, counts))
                self.assertEqual(paper is None, right, (rule, counts))
                if paper is not None:
                    self.assertIs(lets_err(rule, question, paper), True)
                    self.assertEqual((paper[0], type(paper)), (counts, tuple))
                    papers += 1
                    walked += len(paper[1]) > 0
        self.assertTrue(papers > 100 and walked > 10, (papers, walked))

    def test_made_rules(self):
        for question in (("least", (0,), 3), ("more", (0,), (1,)), ("rest", (0, 1), 3, 2),
                         ("both", ("least", (1,), 2), ("rest", (0,), 2, 0))):
            rule = made(question, 2)
            for counts in beginnings_of(2, 4):
                self.assertIsNone(err_at(rule, question, counts))
                paper = err_at(turned(rule), question, counts)
                self.assertIs(lets_err(turned(rule), question, paper), True)

    def test_many_hands(self):
        paper = err_at(ROCKING, ("least", (0,), 1), (60,), 3000)
        self.assertIs(lets_err(ROCKING, ("least", (0,), 1), paper), True)
        self.assertEqual(paper[0], (60,))

    def test_limits(self):
        for rule in bent_rules(20, 3, 2):
            question = question_of(2)
            for counts in beginnings_of(2, 3):
                many = len(closure(rule, begun(rule, counts)))
                told = err_at(rule, question, counts, many) is None
                self.assertEqual(told, answers(rule, question, counts))
                if many > 1:
                    with self.assertRaises(TooMany):
                        err_at(rule, question, counts, many - 1)

    def test_a_thousand_where_it_is_left_out(self):
        question = ("least", (0,), 2)
        self.assertIs(lets_err(THREE_LINES, question, err_at(THREE_LINES, question, A_THOUSAND)), True)
        self.assertIsNone(err_at(THREE_LINES, ("not", question), A_THOUSAND))
        with self.assertRaises(TooMany):
            err_at(THREE_LINES, question, ONE_MORE)
        self.assertIs(lets_err(THREE_LINES, question, err_at(THREE_LINES, question, ONE_MORE, 1001)), True)


class ErrOf(unittest.TestCase):
    def test_the_first_beginning(self):
        firsts = {}
        for rule in all_bent_rules():
            sorts = len(rule[1])
            question = question_of(sorts)
            for most in (1, 2, 4):
                wrong = [counts for counts in beginnings_of(sorts, most)
                         if not plainly_answers(rule, counts, holds(question, counts))]
                paper = err_of(rule, question, most)
                if not wrong:
                    self.assertIsNone(paper)
                    continue
                self.assertEqual(paper[0], wrong[0], rule)
                self.assertIs(lets_err(rule, question, paper), True)
                firsts[wrong[0]] = True
        self.assertGreater(len(firsts), 4)

    def test_by_hands_and_then_as_sorted(self):
        # All say False for ever, so it errs where the question is so.
        silent = (1, (0, 0), (), (False,))
        for question, counts in ((("least", (0, 1), 3), (0, 3)), (("least", (0,), 2), (2, 0)), (("least", (1,), 6), (0, 6)),
                                 (("both", ("least", (0,), 1), ("least", (1,), 1)), (1, 1)),
                                 (("more", (0,), (1,)), (1, 0)), (("least", (0,), 6), (6, 0)),
                                 (("both", ("rest", (0,), 3, 2), ("least", (1,), 2)), (2, 2))):
            self.assertEqual(err_of(silent, question, 6)[0], counts)
            self.assertIsNone(err_of(silent, question, sum(counts) - 1) if sum(counts) > 1 else None)
        self.assertIsNone(err_of(silent, ("least", (0,), 7), 6))

    def test_made_rules(self):
        for question, most in ((("more", (0,), (1,)), 6), (("least", (0, 2), 2), 5), (("rest", (1,), 2, 1), 4)):
            sorts = 2 if question[0] == "more" else 3
            self.assertIsNone(err_of(made(question, sorts), question, most))
            self.assertEqual(err_of(turned(made(question, sorts)), question, most)[0], (0,) * (sorts - 1) + (1,))

    def test_too_many_when_its_turn_comes(self):
        # It errs at six hands first; two hands have three crowds, three four, and so on.
        rule = (2, (0,), ((0, 0, 0, 1), (0, 1, 1, 1)), (False, False))
        question = ("least", (0,), 6)
        self.assertEqual(err_of(rule, question, 6, 7)[0], (6,))
        with self.assertRaises(TooMany):
            err_of(rule, question, 6, 6)
        self.assertIsNone(err_of(rule, question, 5, 6))
        for limit in (3, 4):
            with self.assertRaises(TooMany):
                err_of(rule, question, limit, limit)
            self.assertIsNone(err_of(rule, question, limit - 1, limit))
        # It errs at two hands already, so the turn of those with more crowds never comes.
        self.assertEqual(err_of(rule, ("least", (0,), 2), 6, 3)[0], (2,))
        with self.assertRaises(TooMany):
            err_of(rule, ("least", (0,), 2), 6, 2)
        self.assertEqual(err_of(rule, ("least", (0,), 1), 6, 1)[0], (1,))

    def test_the_turn_within_as_many_hands(self):
        # Of three hands those of sort 1 alone stay, those of sort 0 alone have four crowds.
        rule = (3, (0, 2), ((0, 0, 0, 1), (0, 1, 1, 1)), (False, False, False))
        self.assertEqual(err_of(rule, ("least", (1,), 3), 3, 3)[0], (0, 3))
        with self.assertRaises(TooMany):
            err_of(rule, ("least", (0,), 3), 3, 3)

    def test_a_thousand_where_it_is_left_out(self):
        # Of six hands just a thousand crowds come by the one rule, one more by the other; of five fewer.
        just = ((0, 0, 2, 7), (0, 2, 2, 5), (0, 5, 3, 4), (0, 6, 6, 2), (1, 3, 4, 6), (1, 5, 6, 4), (2, 6, 4, 1),
                (3, 3, 2, 4), (3, 4, 1, 6), (3, 6, 2, 6), (4, 4, 5, 6), (4, 7, 0, 4), (5, 6, 4, 0), (5, 7, 7, 2),
                (7, 7, 6, 6))
        more = ((0, 0, 0, 5), (1, 1, 2, 6), (1, 3, 2, 3), (1, 5, 2, 6), (2, 5, 3, 5), (2, 6, 3, 4), (3, 3, 7, 5),
                (3, 4, 6, 4), (3, 5, 3, 0), (4, 4, 3, 6), (4, 5, 1, 1), (5, 5, 4, 6), (5, 7, 6, 6))
        question = ("least", (0,), 1)
        for many, start, meets in ((1000, 3, just), (1001, 5, more)):
            rule = (8, (start,), meets, (True,) * 8)
            self.assertEqual(len(closure(rule, begun(rule, (6,)))), many)
            self.assertIsNone(err_of(rule, question, 5))
            self.assertIsNone(err_of(rule, question, 6, many))
            with self.assertRaises(TooMany):
                err_of(rule, question, 6, many - 1)
            if many <= 1000:
                self.assertIsNone(err_of(rule, question, 6))
            else:
                with self.assertRaises(TooMany):
                    err_of(rule, question, 6)


class KeptApart(unittest.TestCase):
    def test_nothing_is_changed(self):
        question = ("more", (0,), (1,))
        before = repr((MORE, question))
        err_of(MORE, question, 4)
        err_at(turned(MORE), question, (2, 2))
        self.assertEqual(repr((MORE, question)), before)


if __name__ == "__main__":
    unittest.main()
