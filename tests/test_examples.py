"""All examples of the document, as examples.txt has them: blocks of lines, a setup's with its name ahead."""

import unittest
from pathlib import Path

import liveclaims.errors
from common import Case

TEXT = Path(__file__).resolve().parent / "examples.txt"


def blocks():
    return [block.split("\n") for block in TEXT.read_text(encoding="utf-8").rstrip("\n").split("\n\n")]


def worked(lines, setups, known):
    """What the last of these lines gives; known are the names so far."""
    found = None
    for line in lines:
        code = line.removeprefix(">>> ")
        if code.startswith("# setup "):
            worked(setups[code.removeprefix("# setup ")], setups, known)
            continue
        try:
            held = compile(code, "example", "eval")
        except SyntaxError:
            exec(code, known)
        else:
            found = eval(held, known)
    return found


class TestExamples(Case):
    def test_each(self):
        setups = {}
        count = 0
        for lines in blocks():
            if lines[0].startswith("setup "):
                setups[lines[0].removeprefix("setup ")] = lines[1:]
                continue
            count += 1
            *code, answer = lines
            with self.subTest(example=lines):
                if answer.startswith("raises "):
                    error = getattr(liveclaims.errors, answer.removeprefix("raises "))
                    self.refused(error, worked, code, setups, {})
                else:
                    self.assertEqual(repr(worked(code, setups, {})), answer)
        self.assertEqual((count, sorted(setups)), (43, ["nb", "p", "r"]))


if __name__ == "__main__":
    unittest.main()
