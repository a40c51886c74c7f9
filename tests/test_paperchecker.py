"""Papers, their trees, and the checker that looks at them [27, 28, 30]."""

import itertools
import random
import unittest

from passersby.asked import rows_of
from passersby.paperchecker import lets_paper, stages_at
from passersby.questions import is_question
from passersby.rules import is_rule
from passersby.settling import answers
from tests.samples import (
    ALONE, MORE, ODD, STAYS, TELLING, TWO, WRAPS, all_parts, alone_paper, beginnings_of, bent, by, changed_at, few_paper,
    form, hand_papers, height, least, modulo, nested, odd_paper, ones, part_at, pushed, rest, roots_of, same, spots_in,
    strange_things, telling_paper, two_on, two_paper, two_yes, walks_by, with_part,
    wrapped)

BOUND = 10 ** 15


OWN = object()


def let_by(given, paper=OWN):
    """Whether a thing is a paper of a given rule, question and few; always True or False."""
    rule, question, few, own = given
    answer = lets_paper(rule, question, few, own if paper is OWN else paper)
    assert type(answer) is bool
    return answer


def is_so(rule, question, few, most):
    """Whether a rule answers at all beginnings of at least few hands, and at most so many."""
    return all(answers(rule, question, counts) for counts in beginnings_of(len(rule[1]), most) if sum(counts) >= few)


def bent_at(given, path, thing):
    """The given paper with another thing at a path."""
    return with_part(given[3], path, thing)


def roots(given):
    rule, question, few, paper = given
    return roots_of(rule, lambda truth: rows_of(rule[0], len(rule[1]), question, truth), paper)


class Hand(unittest.TestCase):
    def test_let_by(self):
        for given in hand_papers():
            self.assertIs(let_by(given), True, given[:3])
            for more in range(given[2], 10):
                self.assertIs(lets_paper(given[0], given[1], more, given[3]), True)

    def test_each_few(self):
        for n in range(1, 10):
            for given in (alone_paper(n), few_paper(n)) if n > 1 else (alone_paper(n),):
                for few in range(1, 10):
                    self.assertIs(lets_paper(given[0], given[1], few, given[3]), few >= n, (n, few))

    def test_another_question(self):
        for given in hand_papers():
            rule, question, few, paper = given
            for other in (("not", question), ("more", (), (0,)), ("rest", (0,), 2, 0), ("rest", (0,), 3, 1),
                          ("both", question, ("not", question))):
                self.assertIs(lets_paper(rule, other, few, paper), False, (question, other))
            for n in range(1, 10):
                other = ("least", (0,), n)
                if not is_so(rule, other, few, 10 if len(rule[1]) == 1 else 4):
                    self.assertIs(lets_paper(rule, other, few, paper), False, (question, other))
            self.assertIs(lets_paper(rule, ("not", ("not", question)), few, paper), True)

    def test_another_rule(self):
        rules = [ALONE, TWO, ODD, TELLING, MORE]
        for given in hand_papers():
            rule, question, few, paper = given
            others = [other for other in rules if other != rule]
            others.append((rule[0], rule[1], rule[2], tuple(not truth for truth in rule[3])))
            if rule[2]:
                others.append((rule[0], rule[1], rule[2][:-1], rule[3]))
                others.append((rule[0], rule[1], rule[2][1:], rule[3]))
            if few == 1:
                others.append((rule[0], tuple(rule[0] - 1 for start in rule[1]), rule[2], rule[3]))
            for other in others:
                self.assertTrue(is_rule(other))
                if other == rule:
                    continue
                self.assertIs(lets_paper(other, question, few, paper), False, (rule, other))

    def test_hands_that_change_places_are_the_same(self):
        given = telling_paper()
        rule = (4, (0, 3), ((0, 2, 1, 0), (0, 3, 2, 0), (1, 2, 1, 1), (1, 3, 2, 1)), given[0][3])
        self.assertIs(lets_paper(rule, *given[1:]), True)


class Wrapped(unittest.TestCase):
    """Each kind of tree and refutation around each tree and refutation."""

    def test_each_kind_at_each_place(self):
        for given in hand_papers():
            rule, question, few, paper = given
            for path, many, is_tree, depth in all_parts(roots(given), paper):
                for kind in WRAPS:
                    thing = wrapped(kind, rule[0], len(rule[1]), many, part_at(paper, path), is_tree)
                    self.assertIs(let_by(given, bent_at(given, path, thing)), True, (question, path, kind))

    def test_a_refutation_is_no_tree_nor_a_tree_a_refutation(self):
        for given in hand_papers():
            for path, many, is_tree, depth in all_parts(roots(given), given[3]):
                part = part_at(given[3], path)
                if is_tree:
                    for thing in (ones(many - 1), ones(0), modulo(2, (0, 1))):
                        self.assertIs(let_by(given, bent_at(given, path, thing)), False)
                else:
                    for thing in (("never", part), ("in", 0, ()), STAYS, ("meet", 0, ())):
                        self.assertIs(let_by(given, bent_at(given, path, thing)), False)

    def test_the_other_branch_is_looked_at(self):
        given = two_paper()
        rule, question, few, paper = given
        for path, many, is_tree, depth in all_parts(roots(given), paper):
            for kind in WRAPS:
                thing = wrapped(kind, rule[0], len(rule[1]), many, part_at(paper, path), is_tree)
                places = {"split": ((2,), (3,)), "cases": ((3, 0), (3, 1)), "know": ((2, 0), (3,))}[thing[0]]
                for place in places:
                    for wrong in (None, (), ones(0), ("never", ones(0)), ("sum", ()), thing[0], [thing]):
                        self.assertIs(let_by(given, bent_at(given, path, with_part(thing, place, wrong))), False)

    def test_with_one_thing_amiss(self):
        given = two_paper()
        rule, question, few, paper = given
        for path, many, is_tree, depth in all_parts(roots(given), paper):
            for kind in WRAPS:
                thing = wrapped(kind, rule[0], len(rule[1]), many, part_at(paper, path), is_tree)
                wrongs = [list(thing), thing[:-1], thing + ((),), ("Split",) + thing[1:], (None,) + thing[1:]]
                if thing[0] == "split":
                    wrongs += [changed_at(thing, 1, wrong) for wrong in (None, (0, (0, 0)), (0, (0,), (0,)), (True, (0, 0), (0,)))]
                    wrongs.append(("split", thing[1], thing[3], thing[2]))
                if thing[0] == "cases":
                    wrongs += [changed_at(thing, 2, wrong) for wrong in (1, 3, True, None, "2", 10)]
                    wrongs += [changed_at(thing, 3, wrong) for wrong in (thing[3][:1], thing[3] * 2, list(thing[3]), thing[3][::-1])]
                if thing[0] == "know":
                    wrongs += [changed_at(thing, 1, wrong) for wrong in (None, thing[1][1], ("same", thing[1][1]), least(-1, (0, 0)))]
                    wrongs += [changed_at(thing, 2, wrong) for wrong in ((), thing[2] * 2, list(thing[2]), thing[2][0])]
                for wrong in wrongs:
                    self.assertIs(let_by(given, bent_at(given, path, wrong)), False, (path, wrong))


class Depth(unittest.TestCase):
    """Thirty within one another, counted from where begin, tree, closed, lows, says, asks stand."""

    def deeper(self, given, path, many, is_tree, wanted, kinds):
        """The paper with the part at a path wrapped till so many stand within one another there."""
        thing = part_at(given[3], path)
        again = 0
        while height(thing) < wanted:
            thing = wrapped(kinds[again % len(kinds)], given[0][0], len(given[0][1]), many, thing, is_tree)
            again += 1
        self.assertEqual(height(thing), wanted)
        return bent_at(given, path, thing)

    def test_thirty_and_thirty_one(self):
        for given in hand_papers():
            for path, many, is_tree in roots(given):
                for kind in WRAPS:
                    self.assertIs(let_by(given, self.deeper(given, path, many, is_tree, 30, [kind])), True)
                    self.assertIs(let_by(given, self.deeper(given, path, many, is_tree, 31, [kind])), False)

    def test_trees_and_refutations_are_counted_together(self):
        dice = random.Random(28)
        for given in hand_papers():
            for path, many, is_tree, depth in all_parts(roots(given), given[3]):
                kinds = [dice.choice(WRAPS) for again in range(30)]
                self.assertIs(let_by(given, self.deeper(given, path, many, is_tree, 31 - depth, kinds)), True, path)
                self.assertIs(let_by(given, self.deeper(given, path, many, is_tree, 32 - depth, kinds)), False, path)

    def test_in_what_is_shown(self):
        # A know whose shown refutation is the deepest: it stands one deeper than the know itself.
        for given in hand_papers():
            rooms, sorts = given[0][0], len(given[0][1])
            for path, many, is_tree in roots(given):
                deep = ones(many)
                for again in range(28):
                    deep = wrapped("split one", rooms, sorts, many + 1, deep, False)
                part = part_at(given[3], path)
                for many_within, right in ((28, True), (29, False)):
                    shown = deep if many_within == 28 else wrapped("know", rooms, sorts, many + 1, deep, False)
                    thing = ("know", ("least", (0, (0,) * rooms, (0,) * sorts)), (shown,), pushed(part, many))
                    self.assertIs(let_by(given, bent_at(given, path, thing)), right)

    def test_far_beyond(self):
        given = two_paper()
        for path, many, is_tree in roots(given):
            for wanted in (40, 60, 150):
                self.assertIs(let_by(given, self.deeper(given, path, many, is_tree, wanted, WRAPS)), False)


class Stages(unittest.TestCase):
    def test_how_many_stages(self):
        given = two_paper()
        begin, stages = given[3]
        # More stages behind: ends of the same kind, each with its own number.
        for many, right in ((3, True), (4, True), (79, True), (80, True), (81, False), (103, False), (400, False)):
            self.assertIs(let_by(given, (begin, stages + (stages[2],) * (many - 3))), right, many)
        self.assertIs(let_by(given, (begin, ())), False)
        for many in (1, 2):
            self.assertIs(let_by(given, (begin, stages[:many])), False)
        given = alone_paper(1)
        self.assertIs(let_by(given, (given[3][0], ())), False)
        self.assertIs(let_by(given, (given[3][0], given[3][1] * 80)), True)
        self.assertIs(let_by(given, (given[3][0], given[3][1] * 81)), False)

    def test_a_stage_told_a_hundred_times(self):
        for given in hand_papers():
            begin, stages = given[3]
            for place in range(len(stages)):
                self.assertIs(let_by(given, (begin, stages[:place] + (stages[place],) * 100 + stages[place:])), False)

    def test_how_many_facts(self):
        fact = least(0, (0,), (1,))
        for many, right in ((1, True), (2, True), (23, True), (24, True), (25, False), (100, False)):
            facts = (least(-1, (0,), (1,)),) + (fact,) * (many - 1)
            end = ("end", facts, True, (), (by((0, 1), (many, 1)),), ())
            begin = ("in", 0, ((ones(0, 2),),) + ((ones(2),),) * (many - 1))
            self.assertIs(lets_paper(ALONE, ("least", (0,), 1), 1, (begin, (end,))), right, many)
        # A stage that knows nothing, of a question that is always so.
        question = ("either", ("least", (0,), 1), ("not", ("least", (0,), 1)))
        for facts, right in ((), False), ((fact,), True):
            end = ("end", facts, True, (), (ones(len(facts), len(facts) + 1),), ())
            begin = ("in", 0, ((ones(2),),) * len(facts))
            self.assertIs(lets_paper(ALONE, question, 1, (begin, (end,))), right)

    def test_how_many_ranks(self):
        given = two_paper()
        on = given[3][1][0]
        rank, low = on[2][0], on[3][0]
        still = form(0, (1, 1))
        for many, right in ((0, False), (1, True), (2, True), (4, True), (5, False), (80, False)):
            for ranks in (((rank,) * many), ((still,) * (many - 1) + (rank,))):
                bent_on = changed_at(changed_at(on, 2, ranks if many else ()), 3, (low,) * many)
                self.assertIs(let_by(given, bent_at(given, (1, 0), bent_on)), right, many)

    def test_an_on_stage_that_only_leads_on(self):
        # No meeting is told, so nothing has to fall; there has to be a rank all the same.
        fact = least(-1, (0,), (1,))
        end = alone_paper(1)[3][1][0]
        for many, right in ((0, False), (1, True), (4, True), (5, False)):
            on = ("on", (fact,), (form(0, (1,)),) * many, ((ones(1),),) * many, ("in", 1, ((ones(0, 1),),)), ())
            self.assertIs(lets_paper(ALONE, ("least", (0,), 1), 1, (("in", 0, ((ones(0, 2),),)), (on, end))), right)

    def test_ranks_fall(self):
        given = two_paper()
        on = given[3][1][0]
        shown = (ones(2),)
        h0, h1, both, up = form(0, (1, 0)), form(0, (0, 1)), form(0, (1, 1)), form(5, (1, 1))
        for ranks, right in (((h0,), True), ((h1,), False), ((both,), False), ((up,), False), ((both, h0), True),
                             ((both, up, both, h0), True), ((both, h1), False), ((h1, h0), False), ((h0, h1), True),
                             ((both, h0, h1), True), ((both, h1, h0), False), ((form(0, (3, 1)),), True),
                             ((form(0, (2, 2)),), False), ((form(0, (2, 3)),), False), ((both, both, both, both), False)):
            bent_on = changed_at(changed_at(on, 2, ranks), 3, (shown,) * len(ranks))
            self.assertIs(let_by(given, bent_at(given, (1, 0), bent_on)), right, ranks)

    def test_ranks_are_never_below_nought(self):
        given = two_paper()
        on = given[3][1][0]
        for number, low, right in ((0, ones(2), True), (7, ones(2), True), (-1, ones(2), False), (-2, ones(2), False),
                                   (0, ones(0), False), (0, ones(0, 2), False), (0, by((1, 1), (2, 2)), False)):
            bent_on = changed_at(changed_at(on, 2, (form(number, (1, 0)),)), 3, ((low,),))
            self.assertIs(let_by(given, bent_at(given, (1, 0), bent_on)), right)
        # Below nought by itself, but not with the facts: all hands are at least two.
        rank = form(-2, (1, 1))
        bent_on = changed_at(changed_at(on, 2, (rank, form(0, (1, 0)))), 3, ((ones(0, 1, 2),), (ones(2),)))
        self.assertIs(let_by(given, bent_at(given, (1, 0), bent_on)), True)
        bent_on = changed_at(bent_on, 2, (form(-3, (1, 1)), form(0, (1, 0))))
        self.assertIs(let_by(given, bent_at(given, (1, 0), bent_on)), False)
        for wrong in (None, (), [ones(2)], ones(2), (ones(2), ones(2)), (None,)):
            self.assertIs(let_by(given, bent_at(given, (1, 0, 3, 0), wrong)), False)
        for path, wrong in (((1, 0, 2), [form(0, (1, 0))]), ((1, 0, 2), form(0, (1, 0))), ((1, 0, 2, 0), [0, (1, 0), (0,)]),
                            ((1, 0, 2, 0), ("least", form(0, (1, 0)))), ((1, 0, 2, 0, 0), False), ((1, 0, 2, 0, 1), (1,)),
                            ((1, 0, 2, 0, 1), (1, 0, 0)), ((1, 0, 2, 0, 1, 0), True), ((1, 0, 2, 0, 2), ()),
                            ((1, 0, 2, 0, 0), BOUND + 1), ((1, 0, 2, 0, 0), "0")):
            self.assertIs(let_by(given, bent_at(given, path, wrong)), False, (path, wrong))
        self.assertIs(let_by(given, bent_at(given, (1, 0, 2, 0, 0), BOUND)), True)

    def test_one_part_fewer_and_one_more(self):
        for given in hand_papers():
            for number, stage in enumerate(given[3][1]):
                for place in (1, 2, 3, 4, 5):
                    part = stage[place]
                    if not isinstance(part, tuple) or (stage[0] == "on" and place == 4):
                        continue
                    longer = part + (part[-1:] if part else (ones(0),))
                    for wrong in (longer, part[:-1] if part else longer, list(part), None, part[0] if part else longer):
                        bent_paper = bent_at(given, (1, number, place), wrong)
                        if place == 1 and isinstance(wrong, tuple) and wrong != part:
                            continue
                        self.assertIs(let_by(given, bent_paper), False, (number, place, wrong))

    def test_stages_of_another_kind(self):
        for given in hand_papers():
            for number, stage in enumerate(given[3][1]):
                other = "end" if stage[0] == "on" else "on"
                for wrong in (stage[:-1], stage[1:], stage + ((),), stage + (stage[-1],), list(stage), None, (), stage[0],
                              changed_at(stage, 0, other), changed_at(stage, 0, "On"), changed_at(stage, 0, None),
                              changed_at(stage, 0, True), changed_at(stage, 0, ("on",)), (stage,), stage[::-1]):
                    self.assertIs(let_by(given, bent_at(given, (1, number), wrong)), False, wrong)
            begin, stages = given[3]
            for wrong in ((stages, begin), (begin,), (begin, stages, ()), [begin, stages], (begin, list(stages)),
                          (list(begin), stages), (begin, stages[0]), (begin,) + stages, None, stages, ((begin, stages),),
                          (begin, None), (None, stages), ((), stages)):
                self.assertIs(let_by(given, wrong), False)

    def test_truths(self):
        for given in hand_papers():
            for number, stage in enumerate(given[3][1]):
                if stage[0] == "end":
                    for wrong in (not stage[2], int(stage[2]), 1, 0, None, "True", (stage[2],), -1):
                        self.assertIs(let_by(given, bent_at(given, (1, number, 2), wrong)), False)

    def test_says_of_each_room_that_says_the_other_truth(self):
        given = telling_paper()
        # Rooms 2 and 3 of the end of True, each refuted; a third one for a room that says True.
        for number in (1, 2):
            says = given[3][1][number][3]
            self.assertEqual(len(says), 2)
            for wrong in (says[:1], says + says[:1], says * 2, (says[0], None), (None, says[0]), (says[0], ones(0, 2)),
                          (ones(1, 2), by((1, -1), (2, 1))), list(says), ()):
                self.assertIs(let_by(given, bent_at(given, (1, number, 3), wrong)), False)
        # In order: each by a fact of its own.
        facts = (least(-1, (0,) * 4, (1, 0)), least(0, (0, 0, -1, 0), (0, 0)), least(0, (0, 0, 0, -1), (0, 0)))
        closed = tuple(("never", ones(1 if room == 2 else 2, 4)) for room in (2, 3, 2, 3))
        end = ("end", facts, True, (ones(1, 3), ones(2, 3)), (ones(0, 3),), closed)
        done = ("in", 1, ((ones(1, 4),), (ones(3, 4),), (ones(2, 4),)))
        paper = with_part(bent_at(given, (1, 1), end), (1, 0, 4, 3, 3), done)
        self.assertIs(let_by(given, paper), True)
        self.assertIs(let_by(given, with_part(paper, (1, 1, 3), (ones(2, 3), ones(1, 3)))), False)

    def test_one_hand_is_enough_to_say_otherwise(self):
        # One hand is left in room 0 and says False; of two hands it would be refuted.
        some, left = least(-1, (0, 0), (1,)), least(1, (-1, 0))
        tree = ("split", form(-2, (1, 0)), ("meet", 0, ((ones(1, 2),),)), ("in", 1, ((ones(0, 2),), (ones(1, 2),))))
        on = ("on", (some,), (form(0, (1, 0)),), ((ones(1),),), tree, (STAYS,))
        begin = ("in", 0, ((ones(0, 3),),))
        for says, truth in (((False, True), False), ((True, True), True)):
            rule = (2, (0,), ((0, 0, 0, 1),), says)
            end = ("end", (some, left), True, () if truth else (ones(1, 2),), (ones(0, 2),), (("never", ones(1, 2)),))
            self.assertIs(lets_paper(rule, ("least", (0,), 1), 1, (begin, (on, end))), truth)

    def test_rows_by_both_and_either(self):
        # At two hands at least both hold: the rows of False are those of p, then those of q.
        question = ("both", ("least", (0,), 2), ("either", ("rest", (0,), 2, 0), ("rest", (0,), 2, 1)))
        fact = least(-2, (0,), (1,))
        asks = (ones(0, 1), modulo(2, (1, 1), (2, -1)))
        given = (ALONE, question, 2, (("in", 0, ((ones(0, 2),),)), (("end", (fact,), True, (), asks, ()),)))
        self.assertIs(let_by(given), True)
        self.assertIs(let_by(given, bent_at(given, (1, 0, 4), asks[::-1])), False)
        self.assertIs(let_by(given, bent_at(given, (1, 0, 4), asks[:1])), False)
        self.assertIs(let_by(given, bent_at(given, (1, 0, 4), asks + asks[1:])), False)
        self.assertIs(lets_paper(ALONE, question, 1, given[3]), False)
        turned = (1, (0,), (), (False,))
        given = (turned, ("not", question), 2, bent_at(given, (1, 0, 2), False))
        self.assertIs(let_by(given), True)
        given = (turned, ("either", ("not", question[1]), ("not", question[2])), 2, given[3])
        self.assertIs(let_by(given), True)

    def test_facts(self):
        for given in hand_papers():
            rooms, sorts = given[0][0], len(given[0][1])
            for number, stage in enumerate(given[3][1]):
                for k, fact in enumerate(stage[1]):
                    wrongs = [None, (), list(fact), fact[:1], fact + (2,), ("more",) + fact[1:], fact[1], (fact,),
                              changed_at(fact, 1, None), changed_at(fact, 1, (fact[1][0], fact[1][1] + (0,), fact[1][2])),
                              changed_at(fact, 1, (fact[1][0], fact[1][1], fact[1][2] + (0,))),
                              changed_at(fact, 1, (fact[1][0], list(fact[1][1]), fact[1][2])),
                              changed_at(fact, 1, (True,) + fact[1][1:]), changed_at(fact, 1, (BOUND + 1,) + fact[1][1:])]
                    for wrong in wrongs:
                        self.assertIs(let_by(given, bent_at(given, (1, number, 1, k), wrong)), False, wrong)

    def test_great_forms(self):
        for number, right in ((BOUND, True), (BOUND + 1, False)):
            facts = (least(-1, (0,), (1,)), least(number, (BOUND,), (BOUND,)))
            end = ("end", facts, True, (), (ones(0, 2),), ())
            paper = (("in", 0, ((ones(0, 2),), (ones(2),))), (end,))
            self.assertIs(lets_paper(ALONE, ("least", (0,), 1), 1, paper), right)
        # What comes of moving may be greater.
        given = two_paper()
        for great, right in ((BOUND, True), (BOUND + 1, False)):
            fact = least(0, (0, great))
            end = changed_at(given[3][1][1], 1, given[3][1][1][1] + (fact,))
            paper = bent_at(given, (1, 1), end)
            closed = tuple(("never", by((0, -1), (3, 1))) for meeting in TWO[2])
            paper = with_part(paper, (1, 1, 5), closed)
            paper = with_part(paper, (1, 1, 3), (by((0, -1), (3, 1)),))
            paper = with_part(paper, (1, 1, 4), (ones(1, 3),))
            shown = part_at(paper, (1, 0, 4, 2, 3, 2)) + ((ones(4),),)
            paper = with_part(paper, (1, 0, 4, 2, 3, 2), shown)
            self.assertIs(let_by(given, paper), right)


class Leads(unittest.TestCase):
    """("in", s, shown)."""

    def test_which_stage(self):
        for given in hand_papers():
            stages = given[3][1]
            for path, many, is_tree, depth in all_parts(roots(given), given[3]):
                part = part_at(given[3], path)
                if not is_tree or part[0] != "in":
                    continue
                for s in (-1, -2, len(stages), 80, 10 ** 39, None, "0", True, False, (part[1],), 0.0):
                    self.assertIs(let_by(given, bent_at(given, path + (1,), s)), False, s)
                for wrong in (part[:2], part + ((),), list(part), ("in", part[2], part[1]), ("In",) + part[1:],
                              ("in", part[1], list(part[2])), ("in", part[1], part[2][:-1]), ("in", part[1], ()),
                              ("in", part[1], part[2] + part[2][-1:]), ("in", part[1], None), ("in", part[1], part[2][0]),
                              ("in", part[1], changed_at(part[2], 0, list(part[2][0]))),
                              ("in", part[1], changed_at(part[2], 0, part[2][0][:-1])),
                              ("in", part[1], changed_at(part[2], 0, part[2][0] + part[2][0]))):
                    self.assertIs(let_by(given, bent_at(given, path, wrong)), False, wrong)

    def test_begin_may_lead_to_any(self):
        given = two_paper()
        begin, (on, yes, no) = given[3]
        # The stages in another order: begin leads to the last and to the first.
        on = with_part(on, (4, 2, 3, 1), 2)
        begin = with_part(with_part(begin, (2, 1), 1), (3, 1), 0)
        self.assertIs(let_by(given, (begin, (no, on, yes))), True)

    def test_an_on_stage_leads_to_greater_ones_alone(self):
        given = two_paper()
        begin, (on, yes, no) = given[3]
        self.assertIs(let_by(given, (with_part(begin, (2, 1), 1), (yes, with_part(on, (4, 2, 3, 1), 0), no))), False)
        # To its own one, its own facts shown.
        own = ("in", 0, ((by((0, -1), (4, 1)), ones(0, 4)), (ones(1, 4),)))
        self.assertIs(let_by(given, bent_at(given, (1, 0, 4, 2, 3), own)), False)
        # A second stage with the same facts, which the first leads to.
        on = with_part(on, (4, 2, 3, 1), 2)
        first = ("in", 1, ((by((0, -1), (2, 1)), ones(0, 2)), (ones(1, 2),)))
        begin = with_part(with_part(begin, (2, 1), 0), (3, 1), 3)
        for number, right in ((1, True), (0, False)):
            stages = (with_part(on, (4,), with_part(first, (1,), number)), on, yes, no)
            self.assertIs(let_by(given, (begin, stages)), right)
        stages = (with_part(on, (4,), first), with_part(on, (4,), with_part(first, (1,), 0)), yes, no)
        self.assertIs(let_by(given, (begin, stages)), False)

    def test_closed_leads_to_its_own_or_a_greater_one(self):
        given = two_paper()
        begin, (on, yes, no) = given[3]
        kept = ("in", 0, ((by((0, -1), (3, 1)), ones(0, 3)), (ones(1, 3),)))
        wide = ("in", 0, ((by((0, -1), (4, 1)), ones(0, 4)), (ones(1, 4),)))
        self.assertIs(let_by(given, bent_at(given, (1, 0, 5), (kept, wide))), True)
        self.assertIs(let_by(given, bent_at(given, (1, 0, 5), (wide, kept))), False)
        on = with_part(on, (4, 2, 3, 1), 2)
        begin = with_part(with_part(begin, (2, 1), 0), (3, 1), 3)
        for number in (0, 1):
            for target in (0, 1, 2, 3):
                bent_on = with_part(on, (5,), (with_part(kept, (1,), target), with_part(wide, (1,), target)))
                stages = (bent_on, on, yes, no) if number == 0 else (on, bent_on, yes, no)
                right = target in ((0, 1) if number == 0 else (1,))
                self.assertIs(let_by(given, (begin, stages)), right, (number, target))

    def test_an_end_leads_to_itself_alone(self):
        # Two ends of the same facts: a meeting of the first may not be told to lead to the second.
        rule = (2, (0,), ((0, 0, 0, 1), (0, 1, 1, 1)), (True, True))
        question = ("either", ("least", (0,), 1), ("not", ("least", (0,), 1)))
        begin = ("in", 0, ((ones(0, 3),),))

        def end(target):
            closed = (("in", target, ((ones(0, 2),),)), ("in", target, ((ones(0, 3),),)))
            return ("end", (least(-1, (0, 0), (1,)),), True, (), (ones(1, 2),), closed)

        for one, other in itertools.product(range(-1, 3), repeat=2):
            self.assertIs(lets_paper(rule, question, 1, (begin, (end(one), end(other)))), (one, other) == (0, 1))

    def test_closed_shows_what_is_moved(self):
        # The hands in room 0 are fewer by one behind each meeting: at most that many.
        given = two_paper()
        begin, (on, yes, no) = given[3]
        for number, right in ((0, False), (1, True), (2, True)):
            # Of S at most: S - h0 - 1 is shown of h0 - 1 less.
            fact = least(number - 1, (-1, 0), (1,))
            facts = on[1] + (fact,)
            closed = (("in", 0, ((by((0, -1), (4, 1)), ones(0, 4)), (ones(1, 4),), (ones(2, 4),))),
                      ("in", 0, ((by((0, -1), (5, 1)), ones(0, 5)), (ones(1, 5),), (ones(2, 5),))))
            bent_on = ("on", facts, on[2], ((ones(3),),), pushed(on[4], 2), closed)
            shown = part_at(begin, (2, 2)) + ((by((1, -1), (4, 1)),),)
            paper = (with_part(begin, (2, 2), shown), (bent_on, yes, no))
            self.assertIs(let_by(given, paper), right, number)
        # Only behind the meeting there is a hand in room 1.
        rule = (2, (0,), ((0, 0, 0, 1),), (True, True))
        always = ("either", ("least", (0,), 1), ("not", ("least", (0,), 1)))
        some, turned = least(-1, (0, 0), (1,)), least(-1, (0, 1))
        end = ("end", (some,), True, (), (ones(1, 2),), (STAYS,))
        rank, low = (form(0, (1, 0)),), ((ones(1),),)
        for shown, right in ((ones(2), True), (ones(0, 2), False), (ones(1, 2), False), (by((1, 1), (2, 2)), False)):
            first = ("on", (some,), rank, low, ("in", 2, ((ones(0, 1),),)), (("in", 1, ((ones(0, 2),), (shown,))),))
            second = ("on", (some, turned), rank, ((ones(2),),), ("in", 2, ((ones(0, 2),),)), (STAYS,))
            paper = (("in", 0, ((ones(0, 3),),)), (first, second, end))
            self.assertIs(lets_paper(rule, always, 1, paper), right, shown)


class Stays(unittest.TestCase):
    def one_end(self, fact, meeting, says=(True, True)):
        """An end that stays by its one meeting, with a fact shown at the beginning by the most plain sum."""
        rule = (2, (0,), (meeting,), says)
        always = ("either", ("least", (0,), 1), ("not", ("least", (0,), 1)))
        return rule, always, ("end", (least(-1, (0, 0), (1,)), fact), True, (), (ones(2, 3),), (STAYS,))

    def told(self, fact, meeting, shown):
        rule, question, end = self.one_end(fact, meeting)
        return lets_paper(rule, question, 1, (("in", 0, ((ones(0, 3),), shown)), (end,)))

    def test_least(self):
        # By (0, 0, 0, 1) room 0 loses one, room 1 gets one.
        meeting = (0, 0, 0, 1)
        for ins, right in (((0, 0), True), ((0, 1), True), ((1, 1), True), ((1, 2), True), ((1, 0), False),
                           ((2, 1), False), ((3, 3), True)):
            self.assertIs(self.told(least(0, ins), meeting, (ones(3),)), right, ins)
        for ins, right in (((1, 0), False), ((0, 1), True), ((1, 1), True)):
            self.assertIs(self.told(least(0, ins), (0, 0, 1, 1), (ones(3),)), right, ins)

    def test_same(self):
        all_there = lambda t: (by((1, -t), (2, -t), (3, 1)), by((1, t), (2, t), (3, 1)))
        for ins, ofs, shown, right in (((1, 1), (-1,), all_there(1), True), ((2, 2), (-2,), all_there(2), True),
                                       ((0, 1), (0,), (by((2, -1), (3, 1)), ones(2, 3)), False),
                                       ((1, 0), (-1,), (by((1, -1), (3, 1)), ones(1, 3)), False),
                                       ((0, 0), (0,), (ones(3), ones(3)), True)):
            for meeting in ((0, 0, 0, 1), (0, 0, 1, 1)):
                self.assertIs(self.told(("same", form(0, ins, ofs)), meeting, shown), right, ins)
        self.assertIs(self.told(("same", form(0, (0, 1))), (0, 1, 0, 0), (by((2, -1), (3, 1)), ones(2, 3))), False)

    def test_rest(self):
        for m in (2, 3, 4):
            for times in range(-6, 7):
                fact = ("rest", form(0, (0, times)), m)
                shown = (modulo(m, (2, -times), (3, 1)) if times else modulo(m, (3, 1)),) * (m - 1)
                self.assertIs(self.told(fact, (0, 0, 0, 1), shown), times % m == 0, (m, times))
                self.assertIs(self.told(fact, (0, 0, 1, 1), shown), 2 * times % m == 0, (m, times))

    def test_all_facts_are_looked_at(self):
        rule, question, end = self.one_end(least(0, (1, 0)), (0, 0, 0, 1))
        for place in (0, 1):
            facts = changed_at((least(-1, (0, 0), (1,)),) * 2, place, least(0, (1, 0)))
            shown = changed_at(((ones(0, 3),),) * 2, place, (ones(3),))
            bent_end = changed_at(changed_at(end, 1, facts), 4, (ones(2, 3),))
            self.assertIs(lets_paper(rule, question, 1, (("in", 0, shown), (bent_end,))), False)

    def test_where_it_may_stand(self):
        for given in hand_papers():
            self.assertIs(let_by(given, bent_at(given, (0,), STAYS)), False)
            for path, many, is_tree, depth in all_parts(roots(given), given[3]):
                if is_tree and (path[0] == 0 or path[2] == 4):
                    self.assertIs(let_by(given, bent_at(given, path, STAYS)), False, path)
        # Within other trees of closed.
        given = two_paper()
        for k, many in ((0, 3), (1, 4)):
            for kind in WRAPS:
                thing = wrapped(kind, 2, 1, many, STAYS, True)
                self.assertIs(let_by(given, bent_at(given, (1, 0, 5, k), thing)), True)
            for wrong in (("stays", 0), ("stays", ()), ["stays"], "stays", ("Stays",), (STAYS,), ("stays", 0, ())):
                self.assertIs(let_by(given, bent_at(given, (1, 0, 5, k), wrong)), False)

    def test_where_a_fact_would_be_lost(self):
        given = odd_paper()
        self.assertIs(let_by(given, bent_at(given, (1, 1, 5, 1), STAYS)), False)
        for number, rights in ((2, (False, True, False)), (3, (True, False, True))):
            for k, right in enumerate(rights):
                self.assertIs(let_by(given, bent_at(given, (1, number, 5, k), STAYS)), right, (number, k))


class Meets(unittest.TestCase):
    def test_where_it_may_stand(self):
        given = two_paper()
        meet = ("meet", 1, ((ones(0, 2),), (ones(0, 2),)))
        for path, many, is_tree, depth in all_parts(roots(given), given[3]):
            if is_tree and (path[0] == 0 or path[2] == 5):
                for thing in (meet, ("meet", 0, ((ones(many - 1, many),),)), ("meet", 0, ((ones(0, many),),))):
                    self.assertIs(let_by(given, bent_at(given, path, thing)), False)
        # In closed the meeting could be shown, and ranks would fall; it is not asked there.
        closed = ("meet", 0, ((ones(2, 3),),))
        self.assertIs(let_by(given, bent_at(given, (1, 0, 5, 0), closed)), False)
        closed = ("meet", 1, ((ones(2, 4),), (ones(3, 4),)))
        self.assertIs(let_by(given, bent_at(given, (1, 0, 5, 1), closed)), False)

    def test_which_meeting(self):
        for given in hand_papers():
            for path, many, is_tree, depth in all_parts(roots(given), given[3]):
                part = part_at(given[3], path)
                if not is_tree or part[0] != "meet":
                    continue
                for j in list(range(-4, 9)) + [80, 10 ** 39, -(10 ** 39), None, True, False, "0", (0,)]:
                    if j is True or j is False or j != part[1]:
                        self.assertIs(let_by(given, bent_at(given, path + (1,), j)), False, j)
                shown = part[2]
                for wrong in (part[:2], part + ((),), list(part), ("meet", shown, part[1]), ("Meet",) + part[1:]):
                    self.assertIs(let_by(given, bent_at(given, path, wrong)), False)
                for wrong in (shown[:-1], shown + shown[-1:], list(shown), None, shown[0], (), (None,) * len(shown),
                              changed_at(shown, 0, list(shown[0])), changed_at(shown, 0, shown[0] * 2),
                              changed_at(shown, 0, ()), changed_at(shown, len(shown) - 1, None)):
                    self.assertIs(let_by(given, bent_at(given, path + (2,), wrong)), False, wrong)
                if len(shown) == 2:
                    self.assertIs(let_by(given, bent_at(given, path + (2,), shown[::-1])), False)

    def test_two_of_one_room_are_two(self):
        # By one hand in room 0 the meeting of two is not shown.
        given = few_paper(2)
        for n, right in ((1, False), (2, True), (3, True)):
            paper = (given[3][0], (two_on(n), two_yes(n)))
            self.assertIs(lets_paper(TWO, ("least", (0,), n), n, paper), right, n)
        # And a hand in each of two rooms is one.
        given = two_paper()
        for number, right in ((-1, True), (0, False)):
            self.assertIs(let_by(given, bent_at(given, (1, 0, 4, 2, 1, 0), number)), right)


class Begin(unittest.TestCase):
    def test_what_it_goes_on_from(self):
        # In order: all hands less few; then each room's hands less those of the sorts that start there.
        rule = (3, (2, 0, 2), (), (True, True, True))
        question = ("least", (0, 1, 2), 1)
        nought = (0, 0, 0)
        known = [least(-1, nought, (1, 1, 1)), same(0, (1, 0, 0), (0, -1, 0)), same(0, (0, 1, 0), nought),
                 same(0, (0, 0, 1), (-1, 0, -1))]
        for number, fact in enumerate(known):
            for claimed in known:
                shown = (ones(number, 4),) if claimed[0] == "least" else (by((number, -1), (4, 1)), ones(number, 4))
                end = ("end", (known[0], claimed), True, (), (ones(0, 2),), ())
                paper = (("in", 0, ((ones(0, 4),), shown)), (end,))
                self.assertIs(lets_paper(rule, question, 1, paper), claimed == fact, (number, claimed))
        end = ("end", (known[0],), True, (), (ones(0, 1),), ())
        for place in range(6):
            self.assertIs(lets_paper(rule, question, 1, (("in", 0, ((ones(place, 4),),)), (end,))), place == 0)

    def test_never(self):
        # No beginning is of fewer hands than the paper is for.
        end = alone_paper(1)[3][1][0]
        for below in range(1, 10):
            begin = ("split", (below - 1, (0,), (-1,)), ("never", ones(0, 2)), ("in", 0, ((ones(0, 3),),)))
            for few in range(1, 10):
                self.assertIs(lets_paper(ALONE, ("least", (0,), 1), few, (begin, (end,))), few >= below)


class AnyThing(unittest.TestCase):
    def test_strange_things(self):
        for given in (alone_paper(1), two_paper(), odd_paper()):
            for thing in strange_things():
                self.assertIs(let_by(given, thing), False)
                self.assertIs(let_by(given, (thing, given[3][1])), False)
                self.assertIs(let_by(given, (given[3][0], thing)), False)
                self.assertIs(let_by(given, (given[3][0], (thing,))), False)

    def test_strange_things_at_each_place(self):
        dice = random.Random(27)
        things = strange_things() + [nested(tuple, 190, ones(0)), nested(list, 190, STAYS)]
        for given in (two_paper(), odd_paper(), telling_paper()):
            for path in spots_in(given[3]):
                for thing in dice.sample(things, 8):
                    self.assertIn(let_by(given, bent_at(given, path, thing)), (True, False))

    def test_trees_within_themselves(self):
        given = two_paper()
        for word in ("never", "split", "cases", "know", "in", "stays", "meet", "on", "end"):
            thing = ("never", ones(0))
            for again in range(190):
                thing = (word, thing)
            for path in ((0,), (1, 0), (1, 0, 4), (1, 0, 5, 0), (1, 1, 3, 0), (1, 1, 4, 0), (1, 0, 3, 0, 0)):
                self.assertIs(let_by(given, bent_at(given, path, thing)), False)

    def test_wide_things(self):
        given = two_paper()
        for wide in ((ones(0),) * 100000, (STAYS,) * 100000, ((0, 1),) * 60000, (least(0, (0, 0)),) * 20000):
            for path in ((0,), (1,), (1, 0), (1, 0, 1), (1, 0, 2), (1, 0, 3), (1, 0, 4), (1, 0, 5), (1, 1, 3), (1, 1, 4)):
                self.assertIs(let_by(given, bent_at(given, path, wide)), False)
        self.assertIs(let_by(given, bent_at(given, (1, 1, 3, 0, 1), ((0, 1),) * 60000)), False)


class WhatIsLetByIsSo(unittest.TestCase):
    def test_as_they_stand(self):
        for rule, question, few, paper in hand_papers():
            self.assertTrue(is_so(rule, question, few, 12 if len(rule[1]) == 1 else 6))

    def test_bent_papers(self):
        dice = random.Random(30)
        seen = {}
        still = 0
        for given in hand_papers():
            for again in range(800):
                paper = bent(dice, given[3])
                if paper != given[3] and let_by(given, paper):
                    still += 1
        self.assertGreater(still, 100)
        for given in hand_papers():
            rule, question, few, paper = given
            for again in range(1500):
                thing = bent(dice, (rule, question, few, paper))
                if not isinstance(thing, tuple) or len(thing) != 4 or not is_rule(thing[0]):
                    continue
                if not is_question(len(thing[0][1]), thing[1]) or type(thing[2]) is not int:
                    continue
                if not 1 <= thing[2] <= 9 or thing[:3] == given[:3]:
                    continue
                if dice.random() < 0.3:
                    thing = thing[:3] + (bent(dice, thing[3]),)
                if lets_paper(*thing):
                    if thing[:3] not in seen:
                        seen[thing[:3]] = is_so(*thing[:3], 11 if len(thing[0][1]) == 1 else 4)
                    self.assertTrue(seen[thing[:3]], thing[:3])
        self.assertGreater(len(seen), 20)

    def test_each_small_rule_by_the_papers_at_hand(self):
        # All rules of two rooms and one sort, with the papers of one of them.
        rules = [(2, (start,), tuple(meets), says)
                 for start in range(2)
                 for meets in itertools.product(*[[(a, b, c, d) for c in range(2) for d in range(2)
                                                   if sorted((c, d)) != [a, b]] for a, b in ((0, 0), (0, 1))])
                 for says in itertools.product((False, True), repeat=2)]
        let = 0
        for given in [two_paper()] + [few_paper(n) for n in (2, 3)]:
            for rule in rules:
                for few in (1, 2, 3):
                    if lets_paper(rule, given[1], few, given[3]):
                        let += 1
                        self.assertTrue(is_so(rule, given[1], few, 9), (rule, few))
        self.assertGreater(let, 3)


class StagesAt(unittest.TestCase):
    def test_in_none_in_one_in_several(self):
        paper = two_paper()[3]
        for crowd, counts, numbers in (((2, 0), (2,), [0]), ((1, 1), (2,), [0]), ((0, 2), (2,), [0, 1]), ((1, 0), (1,), [2]),
                                       ((0, 1), (1,), []), ((3, 0), (2,), []), ((0, 5), (2,), [1]), ((2, 3), (5,), [0]),
                                       ((0, 9), (9,), [0, 1])):
            told = stages_at(paper, crowd, counts)
            self.assertEqual(told, numbers)
            self.assertIs(type(told), list)
        begin, stages = paper
        self.assertEqual(stages_at((begin, stages * 4), (0, 2), (2,)), [0, 1, 3, 4, 6, 7, 9, 10])
        self.assertEqual(stages_at(odd_paper()[3], (1, 0, 2), (3,)), [0, 2])
        self.assertEqual(stages_at(odd_paper()[3], (0, 4, 0), (4,)), [1, 3])

    def test_great_crowds(self):
        paper = two_paper()[3]
        self.assertEqual(stages_at(paper, (10 ** 6, 0), (10 ** 6,)), [0])
        self.assertEqual(stages_at(paper, (0, 10 ** 6), (10 ** 6,)), [0, 1])
        self.assertEqual(stages_at(paper, (1, 10 ** 6 - 1), (10 ** 6,)), [0])
        self.assertEqual(stages_at(paper, (10 ** 6, 1), (10 ** 6,)), [])
        self.assertEqual(stages_at(telling_paper()[3], (999999, 0, 0, 10 ** 6), (999999, 10 ** 6)), [0])

    def test_a_told_list_is_the_askers_own(self):
        paper = two_paper()[3]
        told = stages_at(paper, (0, 2), (2,))
        told.append(7)
        self.assertEqual(stages_at(paper, (0, 2), (2,)), [0, 1])

    def test_all_that_comes_lies_in_a_stage(self):
        dice = random.Random(4)
        for rule, question, few, paper in hand_papers():
            for again in range(10):
                counts = tuple(dice.randrange(few, 30) for sort in rule[1])
                walks_by(self, rule, question, paper, counts, 60)


class Unchanged(unittest.TestCase):
    def test_nothing_is_changed(self):
        for given in hand_papers():
            before = repr(given)
            self.assertTrue(let_by(given))
            self.assertEqual(repr(given), before)
        things = [[[["never"]], []], ([], []), ("in", [0], [[1]])]
        before = repr(things)
        for thing in things:
            self.assertIs(let_by(two_paper(), thing), False)
            self.assertIs(let_by(two_paper(), bent_at(two_paper(), (1, 0, 5), thing)), False)
        self.assertEqual(repr(things), before)

    def test_the_same_each_time(self):
        given = two_paper()
        for again in range(3):
            self.assertIs(let_by(given), True)
            self.assertIs(let_by(given, bent_at(given, (0,), STAYS)), False)


if __name__ == "__main__":
    unittest.main()
