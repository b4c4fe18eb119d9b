"""Promises [33] and [5] (g): reading pipelines."""

import random
import re
import unittest

import reference
from common import GOODS, ODD_THINGS, Case, col, goods
from liveclaims.errors import BadStep, BadText, UnknownName
from liveclaims.running import run
from liveclaims.steps import check
from liveclaims.tables import register_table
from liveclaims.texts import read_pipeline
from liveclaims.writing import show_pipeline
from test_reading import wrong_position
from test_writing import LINES

NAME = "[a-z][a-z0-9]{0,11}"
WHOLE = "(?:0|[1-9][0-9]*)"
FUNCTIONS = "(?:count|sum|mean|median|least|greatest)"


# A second way to find the line: each line by itself, then how the lines may follow one another.

def unlike(words, low, high):
    return low <= len(words) <= high and len(set(words)) == len(words) and all(re.fullmatch(NAME, word) for word in words)


def is_plain(line):
    """Whether it is the line of a step of one line, without blanks ahead."""
    word, blank, rest = line.partition(" ")
    words = rest.split(" ") if blank else []
    if word == "keep":
        return bool(blank) and wrong_position(rest) is None
    if word == "set":
        found = re.match("(" + NAME + ") ", rest)
        return bool(found) and wrong_position(rest[found.end():]) is None
    if word == "select":
        return unlike(words, 1, 8)
    if word == "join":
        return len(words) > 2 and re.fullmatch(NAME, words[0]) is not None and words[1] == "on" and unlike(words[2:], 1, 3)
    if word == "sample":
        found = re.fullmatch("(%s) (%s) (%s)" % (WHOLE, WHOLE, WHOLE), rest)
        if not found or max(map(len, words)) > 20:
            return False
        part, whole, seed = map(int, words)
        return 1 <= whole <= 1000 and part <= whole and seed <= 10 ** 9
    if word == "first":
        return re.fullmatch(WHOLE, rest) is not None and len(rest) < 20 and int(rest) <= 1000
    return re.fullmatch("rename %s %s|sort %s (up|down)|union %s|distinct" % (NAME, NAME, NAME, NAME), line) is not None


def wrong_line(text):
    """The number that BadText should tell, or None."""
    lines = text.split("\n")
    if not re.fullmatch("from " + NAME, lines[0]):
        return 0
    steps = 0
    numbers = {}
    # (what must or may follow): the open group's names and number of totals, the open choose's label and alternatives.
    group = choose = None
    inner = 0

    def closed():
        """Whether a line of a lesser depth may stand now."""
        return group is None or group[2] > 0

    def chosen():
        return choose is None or choose[1] >= numbers.get(choose[0], 2)

    for at, line in enumerate(lines[1:], start=1):
        total = re.fullmatch("( +)total (%s) %s %s" % (NAME, FUNCTIONS, NAME), line)
        if total:
            if group is None or len(total.group(1)) != group[0] or total.group(2) in group[1] or group[2] == 6 or len(group[1]) == 8:
                return at
            group[1].append(total.group(2))
            group[2] += 1
            continue
        if not closed():
            return at
        if line == "  or":
            if choose is None or choose[1] == numbers.get(choose[0], 4):
                return at
            choose[1] += 1
            group, inner = None, 0
            continue
        ahead = 4 if line.startswith("    ") else 0
        body = line[ahead:]
        if ahead and (choose is None or choose[1] == 0 or inner == 4):
            return at
        if not ahead and (not chosen() or steps == 10):
            return at
        words = body.split(" ")
        label = re.fullmatch("choose (%s)" % NAME, body)
        if words[0] == "group" and unlike(words[1:], 0, 3):
            fresh = [ahead + 2, words[1:], 0]
        elif is_plain(body) or (label and not ahead):
            fresh = None
        else:
            return at
        if ahead:
            inner += 1
        else:
            if choose is not None:
                numbers[choose[0]] = choose[1]
            steps += 1
            choose = [label.group(1), 0] if label else None
        group = fresh
    return None if closed() and chosen() else len(lines)


ONE_LINE = [line for step, lines in LINES if len(lines) == 1 for line in lines]
CHOOSE = "choose x\n  or\n    group\n      total n count a\n      total m sum a\n    sort n up\n  or\n  or\n    first 3\n    distinct"


class TestRead(Case):
    def told(self, text, line):
        self.same(self.refused(BadText, read_pipeline, text).position, line)
        if isinstance(text, str):
            self.assertEqual(wrong_line(text), line, text)

    def behind(self, lines, line):
        """Refused behind the source; line counts from 1."""
        self.told("from r\n" + lines, line)

    def read(self, lines):
        text = "from r\n" + lines
        found = read_pipeline(text)
        self.same(show_pipeline(found), text)
        self.assertIsNone(wrong_line(text))
        return found

    def test_example(self):
        self.told("from r\nfirst 1\nlast 2", 2)
        self.same(read_pipeline(text="from r"), ("r", ()))

    def test_each_line_is_read_back(self):
        for step, lines in LINES:
            self.same(read_pipeline("\n".join(["from r"] + lines)), ("r", (step,)))
        for step, lines in LINES:
            for other, others in LINES:
                if step[:2] == other[:2] and step[0] == "choose" and len(step[2]) != len(other[2]):
                    continue
                self.same(read_pipeline("\n".join(["from r"] + lines + others)), ("r", (step, other)))

    def test_any_value(self):
        for thing in ODD_THINGS:
            self.told(thing, 0)

    def test_sources(self):
        for line in ("", "from", "from ", "from  r", "from r ", " from r", "from R", "from r s", "From r", "fromr", "from abcdefghijklm", "from 1r",
                     "to r", "from from r", "first 1", "from r;", "from r\r"):
            self.told(line, 0)
            self.told(line + "\nfirst 1", 0)
        self.same(read_pipeline("from abcdefghij12"), ("abcdefghij12", ()))

    def test_empty_lines(self):
        self.told("", 0)
        self.told("\n", 0)
        self.told("\nfrom r", 0)
        self.told("from r\n", 1)
        self.told("from r\n\n", 1)
        self.told("from r\n\nfirst 1", 1)
        self.told("from r\nfirst 1\n", 2)
        self.told("from r\nfirst 1\n\ndistinct", 2)
        self.told("from r\n" + CHOOSE + "\n", 11)
        self.told("from r\ngroup\n", 2)

    def test_lines_of_another_form(self):
        for line in ONE_LINE + ["group a", "choose x"]:
            for wrong in (line + " ", " " + line, "  " + line, "    " + line, line + " a b c d e f g h i j", line.upper(), line.replace(" ", "  ", 1) + " ",
                          line + "\t", line + "\r", "\t" + line, line + ";"):
                self.behind(wrong, 1)
                self.behind("distinct\n" + wrong + "\nfirst 1", 2)
        for line in ("keep", "keep ", "keep (less a)", "keep a b", "keep  a", "set", "set a", "set a ", "set A b", "set a a b", "set  a", "select",
                     "select ", "select a a", "select a A", "select a  b", "rename a", "rename a b c", "rename A b", "rename a B", "sort a", "sort a Up",
                     "sort up", "sort a up up", "sort A up", "first", "first ", "first 01", "first -1", "first +1", "first 1001", "first 1.0", "first a",
                     "first 1 2", "first \u0661", "first " + "9" * 5000, "sample 1 2", "sample 1 2 3 4", "sample 0 0 0", "sample 3 2 1", "sample 1 1001 1",
                     "sample 1 2 1000000001", "sample -1 2 3", "sample 01 2 3", "sample 1 02 3", "sample 1 2 03", "sample 1 2 a", "join s", "join s on",
                     "join s on ", "join s a", "join S on a", "join s on a a", "join s on a b c d", "join s On a", "join on a", "union", "union ", "union S",
                     "union s t", "distinct a", "distinct ", "group A", "group a a", "group a b c d", "group ", "choose", "choose ", "choose X", "choose x y",
                     "total n count a", "  total n count a", "or", "  or", "    or", "from r", "#", "-", "copy", "column a", "?"):
            self.behind(line, 1)
            self.behind(line + "\nfirst 1", 1)
            self.behind("choose x\n  or\n    " + line, 3)
        self.read("select a b c d e f g h")
        self.behind("select a b c d e f g h i", 1)
        self.read("rename a a")
        self.read("join s on on")

    def test_forms(self):
        deep = "(not " * 7 + "a" + ")" * 7
        self.read("keep " + deep + "\nset b " + deep)
        self.behind("keep (not " + deep + ")", 1)
        self.behind("set b (not " + deep + ")", 1)
        self.same(self.read("set if (if (not a) =-1/2 ='b)"), ("r", (("set", "if", ("if", ("not", col("a")), ("value", (-1, 2)), ("value", "b"))),)))
        self.behind("keep (not a", 1)
        self.behind("keep (not a\n)", 1)

    def test_too_many_steps(self):
        for line in ONE_LINE:
            self.read("\n".join([line] * 10))
            self.behind("\n".join([line] * 11), 11)
            self.behind("\n".join([line] * 10 + ["", line]), 11)
        chosen = "choose x\n  or\n  or\n    first 1"
        self.read("\n".join([chosen] * 10))
        self.behind("\n".join([chosen] * 11), 41)
        self.behind("\n".join(["first 1"] * 10 + ["choose x"]), 11)
        self.behind("\n".join(["first 1"] * 10 + ["  or"]), 11)

    def test_totals(self):
        def totals(count, blanks="  "):
            return "".join("\n" + blanks + "total t" + str(at) + " count a" for at in range(count))
        for names in ("", " a", " a b", " a b c"):
            most = min(6, 8 - names.count(" "))
            for count in range(1, most + 1):
                self.read("group" + names + totals(count))
                self.read("group" + names + totals(count) + "\ndistinct")
                self.read("choose x\n  or\n    group" + names + totals(count, "      ") + "\n  or")
            self.behind("group" + names + totals(most + 1), most + 2)
            self.behind("group" + names + totals(most + 1) + "\nfirst 1", most + 2)
            self.behind("choose x\n  or\n    group" + names + totals(most + 1, "      "), most + 4)
            # Lines are missing, or another one stands there.
            self.behind("group" + names, 2)
            self.behind("group" + names + "\nfirst 1", 2)
            self.behind("first 1\ngroup" + names + "\ngroup" + names, 3)
            self.behind("choose x\n  or\n    group" + names, 4)
            self.behind("choose x\n  or\n    group" + names + "\n  or", 4)
            self.behind("choose x\n  or\n    group" + names + "\n  total n count a", 4)
        for line in ("  total n count", "  total n count a b", "  total n max a", "  total N count a", "  total n count A", "  total  n count a",
                     "  total n count a ", " total n count a", "   total n count a", "total n count a", "  Total n count a", "  total n only a",
                     "    total n count a", "      total n count a", "  total a count a", "  total b sum a", "  total", "  "):
            self.behind("group a b\n" + line, 2)
            self.behind("group a b\n  total x mean a\n" + line, 3)
            self.behind("choose x\n  or\n    group a b\n" + ("" if line.startswith("      ") else line), 4)
        self.behind("group a\n  total n sum a\n  total n count b", 3)
        self.behind("first 1\n  total n sum a", 2)
        self.behind("group\n  total n sum a\nfirst 1\n  total m sum a", 4)
        self.read("group a\n  total n sum a\n  total m sum a\ngroup a\n  total n sum a")

    def test_alternatives(self):
        self.same(self.read(CHOOSE), ("r", (("choose", "x", (
            (("group", (), (("n", "count", "a"), ("m", "sum", "a"))), ("sort", "n", "up")), (), (("first", 3), ("distinct",)))),)))
        for count in (2, 3, 4):
            self.read("choose x" + "\n  or" * count)
            self.read("choose x" + "\n  or" * count + "\nfirst 1")
        self.behind("choose x", 2)
        self.behind("choose x\n  or", 3)
        self.behind("choose x\n  or\nfirst 1", 3)
        self.behind("choose x\nfirst 1", 2)
        self.behind("choose x\n    first 1", 2)
        self.behind("choose x\n  or\n    first 1", 4)
        self.behind("choose x" + "\n  or" * 5, 6)
        self.behind("choose x" + "\n  or" * 4 + "\n    first 1\n  or", 7)
        for line in ("or", " or", "   or", "    or", "  or ", "  Or", "  or x", "  first 1", "choose y", "    choose y", "    choose y\n      or"):
            self.behind("choose x\n" + line, 2)
            self.behind("choose x\n  or\n    first 1\n" + line, 4)
            if line != "choose y":
                self.behind("choose x\n  or\n  or\n" + line, 4)
        inner = "\n    first 1"
        self.read("choose x\n  or" + inner * 4 + "\n  or" + inner * 4)
        self.behind("choose x\n  or" + inner * 5 + "\n  or", 7)
        self.behind("choose x\n  or\n  or" + inner * 5, 8)
        self.behind("choose x\n  or\n  or" + inner * 5 + "\nfirst 1", 8)
        for blanks in range(9):
            if blanks != 4:
                self.behind("choose x\n  or\n" + " " * blanks + "first 1", 3)

    def test_labels_again(self):
        two, three, four = ["choose x" + "\n  or" * count for count in (2, 3, 4)]
        for text in (two, three, four):
            self.read(text + "\nfirst 1\n" + text + "\n" + text)
        self.behind(two + "\n" + three, 7)
        self.behind(two + "\n" + three + "\nfirst 1", 7)
        self.behind(three + "\n" + two, 8)
        self.behind(three + "\n" + two + "\nfirst 1", 8)
        self.behind(three + "\nfirst 1\n" + four, 10)
        self.behind(four + "\n" + three + "\n    first 1\n" + three, 11)
        self.read(two + "\n" + three.replace("x", "y") + "\n" + two)
        self.behind(two + "\n" + three.replace("x", "y") + "\n" + three, 11)
        self.behind(three + "\n" + three + "\n" + two, 12)

    def test_signs_between_lines(self):
        for sign in ("\r", "\x0b", "\x0c", "\x1c", "\x85", "\u2028"):
            self.told("from r" + sign + "first 1", 0)
            self.behind("first 1" + sign + "first 1", 1)
            self.behind("first 1" + sign, 1)


class TestByChance(Case):
    def some_text(self, chance):
        columns = (("a", "number"), ("b", "word"), ("c", "flag"))
        tables = {"r": columns, "s": columns}
        pipeline = reference.some_pipeline(chance, tables, check, (BadStep, UnknownName), most=9)
        return pipeline, show_pipeline(pipeline)

    def test_lines_dropped_doubled_moved_and_exchanged(self):
        chance = random.Random(34)
        pool = ONE_LINE + ["group", "group a", "  total n count a", "  total a sum b", "choose x", "  or", "    first 1", "    group", "      total n sum a", ""]
        read = refused = 0
        for turn in range(1500):
            text = self.some_text(chance)[1] if turn % 3 else "from r\n" + CHOOSE
            lines = text.split("\n")
            for change in range(chance.randint(1, 2)):
                at = chance.randrange(len(lines))
                word = chance.choice(("drop", "double", "move", "exchange", "put in", "end"))
                if word == "drop":
                    del lines[at]
                elif word == "double":
                    lines.insert(at, lines[at])
                elif word == "move":
                    lines.insert(chance.randrange(len(lines)), lines.pop(at))
                elif word == "exchange":
                    lines[at] = chance.choice(pool)
                elif word == "put in":
                    lines.insert(at, chance.choice(pool))
                else:
                    lines = lines[:at]
                lines = lines or [""]
            changed = "\n".join(lines)
            wrong = wrong_line(changed)
            if wrong is None:
                self.same(show_pipeline(read_pipeline(changed)), changed)
                read += 1
            else:
                self.same(self.refused(BadText, read_pipeline, changed).position, wrong)
                refused += 1
        self.assertGreater(min(read, refused), 200)

    def test_one_sign_changed(self):
        chance = random.Random(35)
        for turn in range(150):
            text = self.some_text(chance)[1]
            for change in range(20):
                at = chance.randrange(len(text) + 1)
                sign = chance.choice(" \na0-(=x")
                changed = text[:at] + chance.choice((sign, "")) + text[at + chance.choice((0, 1)):]
                wrong = wrong_line(changed)
                if wrong is None:
                    self.same(show_pipeline(read_pipeline(changed)), changed)
                else:
                    self.same(self.refused(BadText, read_pipeline, changed).position, wrong)

    def test_read_back_and_runs_alike(self):
        """Promise [5] (g)."""
        chance = random.Random(36)
        origins = [goods("r", 5), goods("s", 3)]
        tables = {origin.name(): register_table(origin) for origin in origins}
        for turn in range(400):
            pipeline = reference.some_pipeline(chance, {"r": GOODS, "s": GOODS}, check, (BadStep, UnknownName), most=10)
            text = show_pipeline(pipeline)
            found = read_pipeline(text)
            self.same(found, pipeline)
            self.assertIsNone(wrong_line(text))
            setting = {"x": chance.randint(0, 1), "y": 1}
            self.assertEqual(run(tables, found, setting=setting), run(tables, pipeline, setting=setting))


if __name__ == "__main__":
    unittest.main()
