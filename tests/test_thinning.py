"""Papers with fewer facts."""

import unittest

from passersby.making import made
from passersby.paperchecker import lets_paper
from passersby.papers import paper_of
from passersby.thinning import fitting, thinned
from tests.samples import ALONE, alone_paper, hand_papers, least, ones, rest, same


def told(question, sorts):
    return (made(question, sorts), question, 1, paper_of(question, sorts))


class Thinned(unittest.TestCase):
    def test_let_by_still(self):
        givens = hand_papers() + [told(("both", ("least", (0,), 2), ("more", (0,), (1,))), 2), told(("rest", (0,), 4, 1), 1)]
        for rule, question, few, paper in givens:
            before = repr(paper)
            thin = thinned(rule, paper)
            self.assertIs(lets_paper(rule, question, few, thin), True, question)
            for stage, old in zip(thin[1], paper[1]):
                self.assertLessEqual(len(stage[1]), len(old[1]))
            self.assertEqual(thinned(rule, thin), thin)
            self.assertEqual(repr(paper), before)

    def facts_left(self, facts, shown, asks, question=("least", (0,), 2)):
        """The facts that are left of one end's."""
        end = ("end", facts, True, (), asks, ())
        paper = (("in", 0, shown), (end,))
        self.assertIs(lets_paper(ALONE, question, 2, paper), True)
        thin = thinned(ALONE, paper)
        self.assertIs(lets_paper(ALONE, question, 2, thin), True)
        return thin[1][0][1]

    def test_what_shows_nothing(self):
        needed = least(-2, (0,), (1,))
        for other, shown in ((least(-1, (0,), (1,)), (ones(0, 2),)), (same(0, (1,), (-1,)), (("sum", ((1, -1), (2, 1))), ones(1, 2))),
                             (rest(3, 0, (0,), (3,)), (("rest", 3, ((2, 1),)),) * 2)):
            self.assertEqual(self.facts_left((other, needed), (shown, (ones(0, 2),)), (ones(1, 2),)), (needed,))
            self.assertEqual(self.facts_left((needed, other), ((ones(0, 2),), shown), (ones(0, 2),)), (needed,))

    def test_what_is_told_twice_or_says_less(self):
        needed = least(-2, (0,), (1,))
        shown = (ones(0, 2),)
        self.assertEqual(self.facts_left((needed,) * 3, (shown,) * 3, (("sum", ((0, 1), (1, 2), (2, 3), (3, 6))),)), (needed,))
        # What says less helps nothing where it is told beside.
        question = ("least", (0,), 1)
        self.assertEqual(self.facts_left((least(-1, (0,), (1,)), needed), (shown, shown), (ones(0, 2),), question), (needed,))
        self.assertEqual(self.facts_left((needed, least(-1, (0,), (1,))), (shown, shown), (ones(1, 2),), question), (needed,))

    def test_what_always_holds(self):
        needed = least(-2, (0,), (1,))
        for always, ask in ((least(0, (0,)), ones(0, 1, 2)), (same(0, (0,)), ("sum", ((0, -5), (1, 1), (2, 1))))):
            shown = (ones(2),) if always[0] == "least" else (ones(2), ones(2))
            self.assertEqual(self.facts_left((always, needed), (shown, (ones(0, 2),)), (ask,)), (needed,))

    def test_one_fact_is_left(self):
        question = ("either", ("least", (0,), 1), ("not", ("least", (0,), 1)))
        facts = (least(0, (0,), (1,)), least(-1, (0,), (1,)))
        left = self.facts_left(facts, ((ones(2),), (ones(0, 2),)), (ones(2, 3),), question)
        self.assertEqual(left, facts[:1])

    def test_only_where_there_are_too_many(self):
        rule, question, few, (begin, (end,)) = alone_paper(2)
        for many in (1, 24, 25, 60):
            bent_end = ("end", end[1] * many, True, (), (ones(0, many),), ())
            paper = (("in", 0, ((ones(0, 2),),) * many), (bent_end,))
            fit = fitting(rule, paper)
            self.assertIs(lets_paper(rule, question, few, fit), True)
            self.assertEqual(len(fit[1][0][1]), many if many <= 24 else 1)


if __name__ == "__main__":
    unittest.main()
