"""Trees with fewer trees within one another."""

import random
import unittest

from passersby.asked import rows_of
from passersby.lowering import deepness, lowered
from passersby.making import made
from passersby.paperchecker import lets_paper
from passersby.papers import paper_of
from passersby.views import View
from tests.samples import deepened, hand_papers, height, inner_parts, part_at, roots_of, with_part


def ways(tree):
    """How many trees stand within one another in a tree."""
    if tree[0] not in ("split", "cases", "know"):
        return 1
    return 1 + max(ways(part_at(tree, path)) for path, more in inner_parts(tree) if path[0] == 3 or tree[0] == "split")


def given_papers():
    asked = ((("both", ("least", (0,), 2), ("more", (0,), (1,))), 2), (("rest", (0,), 3, 1), 1), (("least", (0,), 4), 2))
    return hand_papers() + [(made(question, sorts), question, 1, paper_of(question, sorts)) for question, sorts in asked]


class Lowered(unittest.TestCase):
    def test_let_by_still(self):
        dice = random.Random(7)
        for given in given_papers():
            rule, question, few, paper = given
            rows = lambda truth: rows_of(rule[0], len(rule[1]), question, truth)
            view = View(rule, rule, tuple(range(rule[0])))
            for deep in (1, 6, 12):
                heavy = deepened(given, rows, deep, dice)[3]
                for path, many, is_tree in roots_of(rule, rows, heavy):
                    old = part_at(heavy, path)
                    self.assertEqual(deepness(old), height(old))
                    if is_tree:
                        tree = lowered(view, many, old)
                        self.assertLessEqual(height(tree), height(old) + 1)
                        self.assertLessEqual(ways(tree), ways(part_at(paper, path)))
                        heavy = with_part(heavy, path, tree)
                self.assertIs(lets_paper(rule, question, few, heavy), True, question)

    def test_one_way(self):
        for given in hand_papers():
            rule, question, few, paper = given
            rows = lambda truth: rows_of(rule[0], len(rule[1]), question, truth)
            heavy = deepened(given, rows, 14, random.Random(8))[3]
            view = View(rule, rule, tuple(range(rule[0])))
            tree = lowered(view, 1 + rule[0], heavy[0])
            self.assertLessEqual(ways(tree), 2)
            self.assertLessEqual(height(tree), 15)


if __name__ == "__main__":
    unittest.main()
