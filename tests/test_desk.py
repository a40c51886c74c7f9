"""A desk, its lines and its refusals [35]."""

import unittest

from passersby.desk import Desk
from passersby.errors import NoCrowd, NoLine, NoMeeting, NoRule, NoText, PassError, TooMany
from passersby.making import made
from passersby.rings import ends_of
from passersby.texts import shown_question, shown_rule
from tests.samples import A_THOUSAND, ODD, ONE_MORE, ROCKING, THREE_LINES

OF_RULE = ("rows", "question", "fewer", "begin 1", "begin 2,3", "begin ", "err 1", "err 6", "check")
OF_CROWD = ("crowd", "meet 0", "meet 9999", "can", "says", "truth", "come", "answers", "ends")


def rule_line(rule, question):
    """The line that tells a rule and a question."""
    return "\n".join(["rule"] + shown_rule(rule) + ["ask " + question])


def kept(desk):
    """All that a desk tells of what it keeps."""
    told = []
    for line in ("rows", "question", "fewer", "check", "crowd", "can", "says", "truth", "come", "answers", "ends"):
        try:
            told.append(desk.say(line))
        except PassError as refusal:
            told.append((type(refusal), vars(refusal)))
    return told


class Desks(unittest.TestCase):
    def refused(self, desk, line, kind, *fields):
        """Whether a line is refused, with these fields, and changes nothing."""
        before = kept(desk)
        with self.assertRaises(kind) as caught:
            desk.say(line)
        self.assertIs(type(caught.exception), kind, line)
        self.assertEqual(list(vars(caught.exception).values()), list(fields), line)
        self.assertEqual(kept(desk), before, line)

    def said(self, desk, *pairs):
        for line, answer in pairs:
            told = desk.say(line)
            self.assertIs(type(told), str)
            self.assertEqual(told, answer, line)

    def at(self, *lines):
        desk = Desk()
        for line in lines:
            desk.say(line)
        return desk


class Right(Desks):
    def test_made(self):
        desk = Desk()
        self.said(desk, ("make 2 more 0 1", "4"),
                  ("rows", "rooms 4; starts 0 1; says yes no yes no; meet 0 1 2 3; meet 0 3 0 2; meet 1 2 1 3; meet 2 3 3 3"),
                  ("question", "more 0 1"), ("fewer", "4"), ("err 6", "none"), ("check", "yes"), ("begin 2,1", "ok"),
                  ("crowd", "2,1,0,0"), ("can", "0"), ("says", "both"), ("truth", "yes"), ("come", "4"), ("answers", "yes"),
                  ("ends", "1"), ("meet 0", "ok"), ("crowd", "1,0,1,1"), ("can", "1 3"), ("says", "both"), ("come", "3"),
                  ("meet 1", "ok"), ("crowd", "1,0,2,0"), ("can", "-"), ("says", "yes"), ("come", "1"), ("ends", "1"),
                  ("truth", "yes"), ("answers", "yes"), ("begin 0,3", "ok"), ("crowd", "0,3,0,0"), ("truth", "no"),
                  ("says", "no"), ("can", "-"), ("begin 2,1", "ok"), ("crowd", "2,1,0,0"))

    def test_each_number_of_sorts(self):
        for sorts in range(1, 5):
            self.said(Desk(), (f"make {sorts} least {sorts - 1} 3", "4"), (f"make {sorts} rest 0 9 8", "11"),
                      (f"make {sorts} not both least 0 1 either more - 0 least 0 4", "40"))

    def test_told_by_rows(self):
        desk = Desk()
        self.said(desk, (rule_line(ODD, "rest 0 2 1"), "ok"), ("question", "rest 0 2 1"), ("rows", "; ".join(shown_rule(ODD))),
                  ("fewer", "3"), ("check", "no"), ("err 6", "none"), ("begin 3", "ok"), ("can", "0"), ("truth", "yes"),
                  ("answers", "yes"), ("meet 0", "ok"), ("crowd", "1,2,0"), ("can", "1"))
        self.said(desk, (rule_line(ODD, "rest 0 2 0"), "ok"), ("err 6", "1"), ("err 1", "1"))
        self.said(desk, (rule_line(ODD, "least 0 2"), "ok"), ("err 1", "1"))
        self.said(desk, (rule_line((2, (0, 1), (), (True, False)), "more 0 1"), "ok"), ("err 1", "none"), ("err 2", "1,1"),
                  ("fewer", "2"))

    def test_answers_at_the_beginning(self):
        # From a crowd on the way it may be otherwise than from the beginning; asked is the beginning.
        fork = (3, (0,), ((0, 0, 1, 1), (0, 1, 2, 2)), (True, True, False))
        desk = self.at(rule_line(fork, "least 0 1"))
        self.said(desk, ("begin 4", "ok"), ("answers", "no"), ("ends", "2"), ("meet 0", "ok"), ("meet 0", "ok"),
                  ("crowd", "0,4,0"), ("ends", "1"), ("answers", "no"), ("begin 2", "ok"), ("answers", "yes"))
        desk = self.at(rule_line(ROCKING, "least 0 1"), "begin 5")
        self.assertEqual(desk.say("ends"), str(len(ends_of(ROCKING, (5, 0, 0)))))
        self.said(desk, ("answers", "no"), ("truth", "yes"))

    def test_the_truth_is_that_of_the_beginning(self):
        desk = self.at("make 2 least 1 2")
        self.said(desk, ("begin 1,3", "ok"), ("crowd", "1,3,0"), ("truth", "yes"), ("says", "no"), ("meet 1", "ok"),
                  ("truth", "yes"), ("says", "both"), ("begin 3,1", "ok"), ("crowd", "3,1,0"), ("truth", "no"), ("says", "no"))

    def test_great_beginnings(self):
        desk = self.at("make 2 more 0 1")
        self.said(desk, ("begin 1000000,999999", "ok"), ("truth", "yes"), ("meet 0", "ok"), ("crowd", "999999,999998,1,1"),
                  ("can", "0 1 2 3"), ("says", "both"), ("begin 0,1", "ok"), ("come", "1"))

    def test_a_new_rule_puts_the_crowd_away(self):
        for line, answer in (("make 1 least 0 2", "3"), ("make 2 more 0 1", "4"), (rule_line(ODD, "rest 0 2 1"), "ok")):
            desk = self.at("make 2 more 0 1", "begin 3,2", "meet 0")
            self.said(desk, (line, answer))
            for word in OF_CROWD:
                self.refused(desk, word, NoCrowd)

    def test_check(self):
        for text, sorts in (("least 0 9", 1), ("more 0 1", 2), ("rest 0,2 9 4", 3), ("both least 0 2 more 1 -", 2),
                            ("either least 0 1 both least 1 1 least 0 2", 2)):
            desk = self.at(f"make {sorts} {text}")
            self.said(desk, ("check", "yes"))
            rows = desk.say("rows").split("; ")
            self.said(desk, ("\n".join(["rule"] + rows + ["ask " + text]), "ok"), ("check", "yes"))
            self.said(desk, ("\n".join(["rule"] + rows + ["ask not " + text]), "ok"), ("check", "no"))
            self.said(desk, ("\n".join(["rule"] + rows[:-1] + ["ask " + text]), "ok"), ("check", "no"))
        # Hands exchanged: the paper would be let by all the same, but it is not the made rule.
        rows = shown_rule(made(("more", (0,), (1,)), 2))
        self.assertEqual(rows[3], "meet 0 1 2 3")
        self.said(self.at("\n".join(["rule"] + rows[:3] + ["meet 0 1 3 2"] + rows[4:] + ["ask more 0 1"])), ("check", "no"),
                  ("err 4", "none"))
        # Made, but of more than twelve rooms; and of a question whose made rule would have too many.
        self.said(self.at("make 1 both least 0 6 least 0 1"), ("rows", "; ".join(shown_rule(made(
            ("both", ("least", (0,), 6), ("least", (0,), 1)), 1)))), ("check", "no"))
        self.said(self.at(rule_line(ODD, "both rest 0 9 1 rest 0 9 2")), ("check", "no"))
        # The same question told otherwise is another one.
        self.said(self.at("make 1 not not least 0 2"), ("check", "yes"))
        rows = shown_rule(made(("least", (0,), 2), 1))
        self.said(self.at("\n".join(["rule"] + rows + ["ask not not least 0 2"])), ("check", "yes"))


class Lines(Desks):
    """What is a line, by its words, and what is none."""

    NONE = ("", " ", "row", "Rows", "rows ", " rows", "rows  ", "rows 1", "rules", "rule ", " rule", "rule 1", "question 1",
            "question ", "fewer 2", "begin", "begin 1 2", "begin  1", "begin 1 ", " begin 1", "begin  ", "crowd 1", "crowd ",
            "meet", "meet ", "meet a", "meet -1", "meet +1", "meet 00", "meet 01", "meet 12345", "meet 10000", "meet 1 2",
            "meet  1", "meet 1 ", "meet 1,2", "meet 1.0", "can 1", "can ", "says no", "says ", "truth ", "truth 1", "come 5",
            "answers no", "answers ", "ends 1", "ends ", "err", "err ", "err 0", "err 7", "err 01", "err 10", "err -1",
            "err 1 2", "err  1", "err 1 ", "err a", "check 1", "check ", "make", "make 1", "make 0 least 0 1", "make ",
            "make 5 least 0 1", "make 01 least 0 1", "make a least 0 1", "make  1 least 0 1", " make 1 least 0 1",
            "make -1 least 0 1", "make 12345 least 0 1", "Make 1 least 0 1", "\n", "rows\n", "\nrows", "crowd\ncrowd",
            "rule \nrooms 1", "make 1\nleast 0 1", "make 1 least 0 1\n", "begin 1\n", "meet 0\n", "rules\nrooms 1",
            "\nrule", " rule\nrooms 1", "say", "ask least 0 1", "rooms 1")

    def test_none(self):
        for desk in (Desk(), self.at("make 1 least 0 2"), self.at("make 1 least 0 2", "begin 3")):
            for line in self.NONE:
                self.refused(desk, line, NoLine, line)

    def test_no_rule(self):
        for line in OF_RULE + OF_CROWD:
            self.refused(Desk(), line, NoRule)

    def test_no_crowd(self):
        for desk in (self.at("make 1 least 0 2"), self.at(rule_line(ODD, "least 0 2"))):
            for line in OF_CROWD:
                self.refused(desk, line, NoCrowd)

    def test_the_order_of_refusals(self):
        desk = Desk()
        # No line ahead of no rule, no rule ahead of no crowd, no crowd ahead of what is asked.
        self.refused(desk, "meet 12345", NoLine, "meet 12345")
        self.refused(desk, "meet 1234", NoRule)
        self.refused(desk, "begin x", NoRule)
        self.refused(desk, "rule", NoText, 0, 0)
        self.refused(desk, "make 1 x", NoText, 0, 0)
        desk.say("make 1 least 0 2")
        self.refused(desk, "meet 12345", NoLine, "meet 12345")
        self.refused(desk, "meet 1234", NoCrowd)
        self.refused(desk, "begin x", NoText, 0, 0)
        desk.say("begin 5")
        self.refused(desk, "meet 12345", NoLine, "meet 12345")
        self.refused(desk, "meet 1234", NoMeeting, 0)
        self.refused(desk, "meet 2", NoMeeting, 0)
        self.said(desk, ("can", "1"), ("meet 1", "ok"))

    def test_refusals_change_nothing(self):
        desk = self.at("make 2 more 0 1", "begin 3,2", "meet 0")
        for line, kind, fields in (("make 2 least 0,2 3", NoText, (0, 1)), ("make 1 both least 0 9 least 0 9", TooMany, ()),
                                   ("rule", NoText, (0, 0)), ("rule\nrooms 2", NoText, (0, 0)), ("begin 0,0", NoText, (0, 0)),
                                   ("meet 4", NoMeeting, (0,)), ("nothing", NoLine, ("nothing",))):
            self.refused(desk, line, kind, *fields)
            self.said(desk, ("crowd", "2,1,1,1"), ("question", "more 0 1"))


class Told(Desks):
    def test_begin(self):
        desk = self.at("make 2 more 0 1", "begin 3,2")
        for word in ("", "1", "1,2,3", "0,0", "1,", ",1", "a,b", "01,1", "1,-1", "1;2", "1000001,0", "0,1000001", "999999999,0",
                     "1000000000,1", "1,2,", "+1,2", "1.0,2", "-", "0"):
            self.refused(desk, "begin " + word, NoText, 0, 0)
        self.said(desk, ("begin 1000000,1000000", "ok"), ("begin 0,1", "ok"))

    def test_make(self):
        desk = Desk()
        for text, place in (("x", 0), ("least", 1), ("least 0", 2), ("least 0 0", 2), ("least 0 10", 2), ("least 2 1", 1),
                            ("least 0 1 1", 3), ("more 0 0", 2), ("rest 0 2 2", 3), ("both least 0 1", 4), ("not", 1), ("least  0 1", 1),
                            ("least 0 1 ", 3), ("not not not not least 0 1", 4), ("", 0), (" least 0 1", 0)):
            self.refused(desk, "make 2 " + text, NoText, 0, place)
        self.refused(desk, "make 1 least 1 1", NoText, 0, 1)
        self.said(desk, ("make 2 least 1 1", "2"))
        for text in ("both least 0 9 least 0 4", "either rest 0 9 1 more 0 -", "not both rest 0 9 0 rest 0 9 0"):
            self.refused(desk, "make 2 " + text, TooMany)
            self.said(desk, ("question", "least 1 1"))
        self.said(desk, ("make 2 both least 0 9 least 0 3", "40"), ("check", "no"))

    def test_rule(self):
        desk = Desk()
        rows = shown_rule(ODD)
        for behind, row, word in (
            ([], 0, 0), ([""], 0, 0), (["ask least 0 1"], 0, 0), (rows[:1] + ["ask least 0 1"], 1, 0),
            (rows[:2] + ["ask least 0 1"], 2, 0), (rows[:1], 0, 0), (rows[:3], 2, 0), (rows, len(rows) - 1, 0),
            (rows + [""], len(rows), 0), (rows + ["ask"], len(rows), 1), (rows + ["ask "], len(rows), 1),
            (rows + ["Ask least 0 1"], len(rows), 0), (rows + ["ask least 1 1"], len(rows), 2),
            (rows + ["ask least 0 0"], len(rows), 3), (rows + ["ask least 0"], len(rows), 3),
            (rows + ["ask least 0 1 1"], len(rows), 4), (rows + ["ask least 0 1 "], len(rows), 4),
            (rows + [" ask least 0 1"], len(rows), 0), (rows + ["ask  least 0 1"], len(rows), 1),
            (rows + ["least 0 1"], len(rows), 0), (rows + ["ask not not not not least 0 1"], len(rows), 5),
            (rows + ["ask least 0 1", "ask least 0 1"], len(rows), 0), (rows + ["ask least 0 1", ""], len(rows), 0),
            (["", "ask least 0 1"], 0, 0), (["rooms 0"] + rows[1:] + ["ask least 0 1"], 0, 1),
            (["rooms 3 "] + rows[1:] + ["ask least 0 1"], 0, 2), (rows[:3] + ["meet 0 0 0 0"] + ["ask x"], 3, 4),
            (rows[:2] + ["says yes no"] + ["ask x"], 2, 3), (rows[:3] + ["meet 1 2 0 0", "meet 0 1 0 0", "ask x"], 4, 1),
        ):
            self.refused(desk, "\n".join(["rule"] + behind), NoText, row, word)
        self.said(desk, ("\n".join(["rule"] + rows[:3] + ["ask least 0 1"]), "ok"), ("fewer", "1"))
        two = ["rooms 1", "starts 0 0", "says yes", "ask least 1 1"]
        self.said(desk, ("\n".join(["rule"] + two), "ok"), ("question", "least 1 1"))
        self.refused(desk, "\n".join(["rule"] + two[:3] + ["ask least 2 1"]), NoText, 3, 2)

    def test_too_many(self):
        desk = self.at(rule_line(THREE_LINES, "least 0 1"))
        self.said(desk, ("begin " + ",".join(map(str, A_THOUSAND)), "ok"), ("come", "1000"), ("ends", "1"))
        desk.say("begin " + ",".join(map(str, ONE_MORE)))
        for line in ("come", "answers", "ends"):
            self.refused(desk, line, TooMany)
        # More than sixty hands, whatever few crowds there are.
        desk = self.at(rule_line((1, (0,), (), (True,)), "least 0 1"))
        for hands, right in ((59, True), (60, True), (61, False), (1000000, False)):
            desk.say(f"begin {hands}")
            for line, answer in (("come", "1"), ("answers", "yes"), ("ends", "1")):
                if right:
                    self.said(desk, (line, answer))
                else:
                    self.refused(desk, line, TooMany)
            self.said(desk, ("truth", "yes"), ("says", "yes"), ("can", "-"), ("crowd", str(hands)))

    def test_err_too_many(self):
        # A rule by which six hands come to more than a thousand crowds: any two hands move one on through thirty rooms.
        rooms = 30
        meets = [(a, b, (a + 1) % rooms, b) for a in range(rooms) for b in range(a, rooms) if b != (a + 1) % rooms]
        rule = (rooms, (0,), tuple(meet for meet in meets if sorted(meet[2:]) != sorted(meet[:2])), (True,) * rooms)
        desk = self.at(rule_line(rule, "least 0 1"))
        self.said(desk, ("err 1", "none"), ("err 2", "none"))
        self.refused(desk, "err 6", TooMany)
        # Where it errs ahead of that, the first beginning is told.
        desk = self.at(rule_line(rule, "least 0 3"))
        self.said(desk, ("err 6", "1"))

    def test_err(self):
        desk = self.at(rule_line((2, (0, 1), ((0, 1, 0, 0),), (True, False)), "more 0 1"))
        self.said(desk, ("err 1", "none"), ("err 2", "1,1"), ("err 6", "1,1"))

    def test_two_desks(self):
        one, other = Desk(), Desk()
        self.said(one, ("make 2 more 0 1", "4"))
        self.refused(other, "rows", NoRule)
        self.said(other, ("make 1 least 0 2", "3"))
        self.said(one, ("begin 2,1", "ok"))
        self.refused(other, "crowd", NoCrowd)
        self.said(other, ("begin 4", "ok"))
        for again in range(2):
            self.said(one, ("crowd", "2,1,0,0"), ("question", "more 0 1"))
            self.said(other, ("crowd", "0,4,0"), ("question", "least 0 2"))
        self.said(one, ("meet 0", "ok"))
        self.said(other, ("meet 1", "ok"), ("crowd", "0,2,2"))
        self.said(one, ("crowd", "1,0,1,1"))

    def test_the_same_as_the_parts_tell(self):
        for question in (("least", (0,), 3), ("both", ("least", (0,), 1), ("rest", (0, 1), 2, 1))):
            desk = self.at("make 2 " + shown_question(question))
            self.assertEqual(desk.say("rows"), "; ".join(shown_rule(made(question, 2))))
            self.assertEqual(desk.say("question"), shown_question(question))


if __name__ == "__main__":
    unittest.main()
