"""Promise [34]: the desk."""

import unittest

from common import ODD_THINGS, Case
from liveclaims.desk import Desk
from liveclaims.errors import (BadChoice, BadLine, BadName, BadSentence, BadStep, BadText, FalseClaim, InUse, Missing, NoEdition, NoLine, NoRow,
                               NotRowwise, TooLarge, UnknownName)

# A line of each form, with things that would be good if a row 0, a cell c with a label x, a claim 0 and an edition 1 were there.
GOOD = ("add lamp 3/2 bo", "correct 0 lamp 3/2 bo", "strike 0 bo", "cell c from r", "drop c", "choose x 0", "show c", "say words", "tell sum c num 2",
        "claim least sum c num 1", "claim most sum c num 1", "lines", "publish", "judge 1", "firm 0", "version")


def at_work():
    """A desk with rows, a cell c with a label x, a claim, a number and an edition."""
    desk = Desk()
    for line in ("add lamp 3/2 bo", "add - 2 bo", "add mat - di", "cell c from r; choose x;   or;   or;     first 1",
                 "claim least sum c num 3", "tell sum c num 2", "publish"):
        desk.say(line)
    return desk


def state(desk):
    """All that can be asked without a change."""
    found = [desk.say(line) for line in ("version", "lines", "judge 1", "firm 0", "show c")]
    for line in ("judge 2", "firm 2", "show d"):
        try:
            found.append(desk.say(line))
        except (BadLine, NoEdition, NoLine, UnknownName):
            found.append(None)
    return found


class TestAnswers(Case):
    def setUp(self):
        self.desk = Desk()

    def told(self, *pairs):
        for line, answer in pairs:
            self.same(self.desk.say(line), answer)

    def test_example(self):
        answers = [self.desk.say(line) for line in ("add lamp 3/2 bo", "cell c from r; first 1", "tell sum c num 2")]
        self.same((answers, self.desk.say("lines")), (["0", "ok", "0"], "1.50"))
        self.same(self.desk.say(line="version"), "1")

    def test_rows(self):
        self.told(("version", "0"), ("add lamp 3/2 bo", "0"), ("add - - bo", "1"), ("add mat -7 di", "2"), ("correct 1 desk 0 ed", "1"),
                  ("strike 0 bo", "0"), ("version", "5"), ("cell c from r", "ok"), ("show c", "desk,0 mat,-7"), ("correct 2 - - bo", "2"),
                  ("show c", "desk,0 -,-"), ("add a9 1" + "0" * 40 + " bo", "3"), ("add a9 -1/1" + "0" * 40 + " bo", "4"),
                  ("show c", "desk,0 -,- a9,1" + "0" * 40 + " a9,-1/1" + "0" * 40), ("strike 1 bo", "1"), ("version", "9"))

    def test_cells(self):
        self.told(("add a 1 bo", "0"), ("add b 2 bo", "1"), ("add a 3 bo", "2"), ("cell c from r; keep (less =1 num)", "ok"), ("show c", "b,2 a,3"),
                  ("cell c from r; group item;   total n count num;   total s sum num", "ok"), ("show c", "a,2,4 b,1,2"),
                  ("cell d from c; set f (less n s); select f n", "ok"), ("show d", "yes,2 yes,1"),
                  ("cell e from c; set f (not (same n s)); set g (over n =0); select g f item", "ok"), ("show e", "-,yes,a -,yes,b"),
                  ("cell e from r; set f (same num =1); select f", "ok"), ("show e", "yes no no"), ("cell e from r; first 0", "ok"), ("show e", "-"),
                  ("drop e", "ok"), ("drop d", "ok"), ("cell c from r; choose x;   or;   or;     sort num down;     first 1", "ok"),
                  ("show c", "a,1 b,2 a,3"), ("choose x 1", "ok"), ("show c", "a,3"), ("choose x 0", "ok"), ("show c", "a,1 b,2 a,3"))

    def test_sentences(self):
        self.told(("lines", "-"), ("add lamp 3/2 bo", "0"), ("cell c from r", "ok"), ("say a word", "0"), ("tell mean c num 0", "1"),
                  ("claim least sum c num 3/2", "2"), ("claim most count c item 1", "3"), ("claim least only c num -1/2", "4"),
                  ("lines", "a word | 2 | sum of num in c is at least 3/2 | count of item in c is at most 1 | only of num in c is at least -1/2"),
                  ("publish", "1"), ("judge 1", "ok"), ("add desk 0 bo", "1"), ("lines", "a word | 1 | sum of num in c is at least 3/2 | ? | ?"),
                  ("judge 1", "ok"), ("strike 1 bo", "1"), ("publish", "2"), ("judge 2", "ok"), ("judge 1", "ok"))

    def test_empty_paper(self):
        self.told(("publish", "1"), ("judge 1", "ok"), ("lines", "-"), ("publish", "2"), ("version", "0"))

    def test_firm(self):
        self.told(("add a 1 bo", "0"), ("add b 2 bo", "1"), ("add c 3 bo", "2"), ("cell c from r", "ok"), ("claim least sum c num 3", "0"),
                  ("claim least sum c num 7", "1"), ("claim most sum c num 6", "2"), ("claim least count c num 1", "3"), ("claim least sum c num 0", "4"),
                  ("firm 0", "2"), ("firm 1", "0"), ("firm 2", "never"), ("firm 3", "3"), ("firm 4", "never"))
        self.told(("say words", "5"), ("tell sum c num 1", "6"), ("cell d from r; first 2", "ok"), ("claim least sum d num 1", "7"),
                  ("claim least only c num 1", "8"))
        self.refused(BadLine, self.desk.say, "firm 5")
        self.refused(BadLine, self.desk.say, "firm 6")
        self.same(self.refused(NotRowwise, self.desk.say, "firm 7").cell, "d")
        for line in ("9", "10", "1" + "0" * 40):
            self.same(self.refused(NoLine, self.desk.say, "firm " + line).number, int(line))

    def test_blanks_in_what_follows(self):
        self.told(("say  two  blanks ", "0"), ("say  ", "1"), ("say - ~ ; , say", "2"), ("lines", " two  blanks  |   | - ~ ; , say"),
                  ("cell c from r; keep (same item ='a)", "ok"))
        self.same(self.refused(BadSentence, self.desk.say, "say ").part, 0)
        self.same(self.refused(BadText, self.desk.say, "cell c ").position, 0)
        self.same(self.refused(BadText, self.desk.say, "cell c  from r").position, 0)
        self.same(self.refused(BadText, self.desk.say, "cell c from r ").position, 0)
        self.same(self.refused(BadText, self.desk.say, "cell c from r; ").position, 1)
        self.same(self.refused(BadText, self.desk.say, "cell c from r;first 1").position, 0)
        self.same(self.refused(BadText, self.desk.say, "cell c from r;  first 1").position, 1)
        self.same(self.refused(BadText, self.desk.say, "cell c from r; first 1;").position, 1)
        self.same(self.refused(BadText, self.desk.say, "cell c from r; first 1; ; first 2").position, 2)
        self.same(self.refused(BadText, self.desk.say, "cell c from r; choose x;   or").position, 3)
        for line in ("say", "cell", "cell c", "cell "):
            self.refused(BadLine, self.desk.say, line)
        # An empty word is a name like any other here, and the pipeline is read first.
        self.refused(BadText, self.desk.say, "cell  c from r")
        self.refused(BadName, self.desk.say, "cell  from r")
        self.refused(BadText, self.desk.say, "cell A ")
        self.same(self.refused(BadName, self.desk.say, "cell A from r").given, "A")

    def test_several_desks(self):
        other = Desk()
        self.desk.say("add a 1 bo")
        self.desk.say("say words")
        self.same((other.say("version"), other.say("lines")), ("0", "-"))


class TestBadLines(Case):
    def refused_line(self, desk, line):
        before = state(desk)
        self.refused(BadLine, desk.say, line)
        self.assertEqual(state(desk), before)

    def test_good_lines(self):
        for line in GOOD:
            desk = at_work()
            if line == "drop c":
                desk.say("cell c from r")
            desk.say(line)

    def test_a_word_too_few_or_too_many(self):
        desk = at_work()
        for line in GOOD:
            words = line.split(" ")
            for at in range(len(words)):
                shorter = " ".join(words[:at] + words[at + 1:])
                if words[0] == "cell" and at in (1, 2, 3) or words[0] == "say" and at == 1:
                    continue
                self.refused_line(desk, shorter)
            if words[0] not in ("cell", "say"):
                for more in ("", " ", "a", "0", "a b"):
                    self.refused_line(desk, line + " " + more)
            self.refused_line(desk, " " + line)
            self.refused_line(desk, words[0].upper() + line[len(words[0]):])
            self.refused_line(desk, words[0] + "s" + line[len(words[0]):])
        for line in ("", " ", "  ", "a", "hello there", "-", "lines ", "version ", "publish 1", "lines lines", "cell", "cell c", "say", "claim", "judge", "judge "):
            self.refused_line(desk, line)

    def test_two_blanks(self):
        desk = at_work()
        for line in GOOD:
            words = line.split(" ")
            for at in range(1, len(words)):
                if words[0] not in ("say", "cell"):
                    self.refused_line(desk, " ".join(words[:at]) + "  " + " ".join(words[at:]))

    def test_any_value(self):
        desk = at_work()
        for thing in ODD_THINGS:
            self.refused_line(desk, thing)
        for line in GOOD:
            for wrong in (line + "\n", "\n" + line, line.replace(" ", "\n", 1), line + "\nversion", line.encode(), [line], (line,)):
                if wrong != line:
                    self.refused_line(desk, wrong)
        self.refused_line(desk, "say a\nb")
        self.refused_line(desk, "cell c from r\nfirst 1")
        # Only a line feed parts lines.
        self.same(self.refused(BadSentence, desk.say, "say a\rb").part, 0)

    def test_integers(self):
        desk = at_work()
        wrong = ("", "-", "-1", "+1", "01", "00", "1.0", "a", "1/2", "\u0661", "1_0", "0x1", "1" + "0" * 41, "9" * 42, "9" * 5000, "None")
        for word in wrong:
            for line in ("correct {} lamp 1 bo", "strike {} bo", "choose x {}", "tell sum c num {}", "judge {}", "firm {}"):
                self.refused_line(desk, line.format(word))
        big = "9" * 41
        self.same(self.refused(NoRow, desk.say, "correct " + big + " lamp 1 bo").number, int(big))
        self.same(self.refused(NoRow, desk.say, "strike " + big + " bo").number, int(big))
        self.same(self.refused(BadChoice, desk.say, "choose x " + big).label, "x")
        self.same(self.refused(BadSentence, desk.say, "tell sum c num " + big).part, 0)
        self.same(self.refused(NoEdition, desk.say, "judge " + big).number, int(big))
        self.same(self.refused(NoLine, desk.say, "firm " + big).number, int(big))

    def test_numbers_and_items(self):
        desk = at_work()
        for word in ("", "--1", "+1", "01", "-0", "1/1", "2/4", "1/0", "1.5", "a", "=1", "=1/2", "1/", "/2", "1" + "0" * 39 + "11", "-1" + "0" * 41, "1/1" + "0" * 41,
                     "9" * 5000):
            for line in ("add lamp {} bo", "correct 0 lamp {} bo", "claim least sum c num {}", "claim most sum c num {}"):
                self.refused_line(desk, line.format(word))
        for line in ("claim least sum c num -", "claim most sum c num -"):
            self.refused_line(desk, line)
        for word in ("", "A", "1a", "abcdefghijklm", "--", "'a", "a_b", "#yes"):
            self.refused_line(desk, "add " + word + " 1 bo")
            self.refused_line(desk, "correct 0 " + word + " 1 bo")
        for word in ("", "more", "Least", "share", "rises", "at", "-"):
            self.refused_line(desk, "claim " + word + " sum c num 1")
        self.refused_line(desk, "claim more sum c num sum c num 0")

    def test_ahead_of_what_the_calls_raise(self):
        desk = at_work()
        # There is no such row, author, cell or label either.
        for line in ("correct 99 A 1 BO", "correct 99 lamp x BO", "correct x lamp 1 BO", "strike x BO", "add A 1 BO", "add lamp x BO", "choose none x",
                     "tell sum none num x", "claim least sum none num x", "claim some sum none num 1", "judge x", "firm x"):
            self.refused_line(desk, line)


class TestWhatTheCallsRaise(Case):
    def setUp(self):
        self.desk = at_work()
        self.before = state(self.desk)

    def told(self, error, line):
        found = self.refused(error, self.desk.say, line)
        self.assertEqual(state(self.desk), self.before)
        return found

    def test_rows(self):
        for author in ("BO", "", "-", "1"):
            self.same(self.told(BadName, "add lamp 1 " + author).given, author)
            self.same(self.told(BadName, "correct 0 lamp 1 " + author).given, author)
            self.same(self.told(BadName, "strike 0 " + author).given, author)
        self.same(self.told(NoRow, "correct 3 lamp 1 BO").number, 3)
        self.same(self.told(NoRow, "strike 3 BO").number, 3)

    def test_cells(self):
        self.same(self.told(BadName, "cell r from r").given, "r")
        self.same(self.told(BadName, "cell C from r").given, "C")
        self.same(self.told(UnknownName, "cell d from e").key, "e")
        self.same(self.told(BadStep, "cell d from r; keep num").index, 0)
        self.same(self.told(BadStep, "cell d from r; distinct; select price").index, 1)
        self.same(self.told(BadText, "cell C from r; last 1").position, 1)
        self.same(self.told(UnknownName, "drop d").key, "d")
        self.same(self.told(UnknownName, "drop ").key, "")
        self.same(self.told(UnknownName, "show d").key, "d")
        self.same(self.told(UnknownName, "show r").key, "r")
        self.same(self.told(UnknownName, "show ").key, "")
        self.same(self.told(UnknownName, "choose y 0").key, "y")
        self.same(self.told(UnknownName, "choose  0").key, "")
        self.same(self.told(BadChoice, "choose x 2").label, "x")
        self.desk.say("cell d from c")
        self.before = state(self.desk)
        self.same(self.told(InUse, "drop c").users, ["d"])

    def test_sentences(self):
        for line in ("say ", "say 1", "say what?", "say #", "say " + "a" * 81, "say 50%", "tell sum d num 1", "tell max c num 1", "tell sum c item 1", "tell sum c num 10",
                     "tell sum c  1", "tell  c num 1", "claim least sum d num 1", "claim most sum c item 1", "claim least  c num 1"):
            self.same(self.told(BadSentence, line).part, 0)

    def test_publish(self):
        self.same(self.told(NoEdition, "judge 0").number, 0)
        self.same(self.told(NoEdition, "judge 2").number, 2)
        self.desk.say("claim least sum c num 4")
        self.before = state(self.desk)
        found = self.told(FalseClaim, "publish")
        self.same((found.line, found.part), (2, 0))
        self.desk = at_work()
        self.desk.say("tell only c num 1")
        self.before = state(self.desk)
        found = self.told(Missing, "publish")
        self.same((found.line, found.part), (2, 0))

    def test_too_large(self):
        desk = Desk()
        for at in range(400):
            desk.say("add a 1 bo")
        for line in ("add a 1 bo", "strike 0 bo", "correct 0 a 1 bo"):
            self.same(self.refused(TooLarge, desk.say, line).size, 401)
        desk.say("cell c from r; union r; union r")
        self.same(self.refused(TooLarge, desk.say, "show c").size, 1200)
        desk.say("tell count c num 0")
        self.same(desk.say("lines"), "?")
        self.same(self.refused(TooLarge, desk.say, "publish").size, 1200)
        for at in range(39):
            desk.say("say a")
        self.same(self.refused(TooLarge, desk.say, "say a").size, 41)
        self.same(desk.say("version"), "400")


class TestJudge(Case):
    def test_places(self):
        # An edition that does not follow can come here only by hand.
        desk = at_work()
        edition = desk.page.past[0]
        self.same(edition[0], "desk")
        for wrong, answer in ((edition[:5] + (("a",) + edition[5][1:],) + edition[6:], "line 0 -"), (edition[:6] + (edition[6] * 2,), "sheet"),
                              (edition[:6] + ((),), "line 0 0"), (edition[:2] + ((("r", 99),),) + edition[3:], "register r"),
                              (edition[:3] + ((("c", ("q", ())),),) + edition[4:], "cell c"), (edition[:5], "form")):
            desk.page.past[0] = wrong
            self.same(desk.say("judge 1"), answer)
        desk.page.past[0] = edition
        self.same(desk.say("judge 1"), "ok")


if __name__ == "__main__":
    unittest.main()
