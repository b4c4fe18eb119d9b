"""A desk: a register, a notebook and a paper that answer lines of words."""

from liveclaims.errors import BadLine, NoLine
from liveclaims.firmness import firmness
from liveclaims.judging import judge
from liveclaims.notebooks import Notebook
from liveclaims.papers import Paper
from liveclaims.reading import read_rational, read_whole
from liveclaims.registers import Register, is_name
from liveclaims.texts import read_pipeline
from liveclaims.writing import show_rational

COLUMNS = (("item", "word"), ("num", "number"))
NOTHING = "-"


def whole_in(word):
    number = read_whole(word)
    if number is None:
        raise BadLine()
    return number


def rational_in(word):
    number = read_rational(word)
    if number is None:
        raise BadLine()
    return number


def item_in(word):
    if word != NOTHING and not is_name(word):
        raise BadLine()
    return None if word == NOTHING else word


def row_in(words):
    """The values of a row, of the words for its item and its number."""
    item, number = words
    return (item_in(item), None if number == NOTHING else rational_in(number))


def show_cell_value(value):
    if value is None:
        return NOTHING
    if value is True or value is False:
        return "yes" if value else "no"
    return value if isinstance(value, str) else show_rational(value)


def joined_or_nothing(sign, texts):
    return sign.join(texts) if len(texts) > 0 else NOTHING


# Each of these takes the desk and the words of a line, as many as there must be, and returns the answer.


def say_add(desk, words):
    values = row_in(words[1:3])
    return str(desk.origin.add(values, author=words[3]))


def say_correct(desk, words):
    number = whole_in(words[1])
    values = row_in(words[2:4])
    desk.origin.correct(number, values, author=words[4])
    return str(number)


def say_strike(desk, words):
    number = whole_in(words[1])
    desk.origin.strike(number, author=words[2])
    return str(number)


def say_cell(desk, words):
    pipeline = read_pipeline(" ".join(words[2:]).replace("; ", "\n"))
    desk.book.put(words[1], pipeline)
    return "ok"


def say_drop(desk, words):
    desk.book.drop(words[1])
    return "ok"


def say_choose(desk, words):
    index = whole_in(words[2])
    desk.book.choose(words[1], index)
    return "ok"


def say_show(desk, words):
    rows = [",".join([show_cell_value(value) for value in values])
            for values, lineage in desk.book.value(words[1]).rows()]
    return joined_or_nothing(" ", rows)


def say_say(desk, words):
    return str(desk.page.write((("text", " ".join(words[1:])),)))


def say_tell(desk, words):
    word, function, cell, column, places = words
    return str(desk.page.write((("number", (function, cell, column), whole_in(places)),)))


def say_claim(desk, words):
    word, form, function, cell, column, bound = words
    if form != "least" and form != "most":
        raise BadLine()
    claim = (form, (function, cell, column), rational_in(bound))
    return str(desk.page.write((("claim", claim, ()),)))


def say_lines(desk, words):
    return joined_or_nothing(" | ", desk.page.preview())


def say_publish(desk, words):
    return str(desk.page.publish()[1])


def say_judge(desk, words):
    place = judge([desk.origin], desk.page.edition(whole_in(words[1])))
    if place is None:
        return "ok"
    return " ".join([NOTHING if thing is None else str(thing) for thing in place])


def say_firm(desk, words):
    line = whole_in(words[1])
    sentences = desk.page.sentences()
    if line >= len(sentences):
        raise NoLine(line)
    part = sentences[line][0]
    if part[0] != "claim":
        raise BadLine()
    found = firmness(desk.book, part[1])
    return "never" if found is None else str(found[0])


def say_version(desk, words):
    return str(desk.origin.version())


# How many words there are; say and cell may have more.
COUNTS = {"add": 4, "correct": 5, "strike": 3, "cell": 3, "drop": 2, "choose": 3, "show": 2, "say": 2, "tell": 5,
          "claim": 6, "lines": 1, "publish": 1, "judge": 2, "firm": 2, "version": 1}
OPEN_ENDED = ("say", "cell")
ANSWERS = {"add": say_add, "correct": say_correct, "strike": say_strike, "cell": say_cell, "drop": say_drop,
           "choose": say_choose, "show": say_show, "say": say_say, "tell": say_tell, "claim": say_claim,
           "lines": say_lines, "publish": say_publish, "judge": say_judge, "firm": say_firm, "version": say_version}


def check_words(words):
    word = words[0]
    if word not in COUNTS or len(words) < COUNTS[word]:
        raise BadLine()
    if len(words) > COUNTS[word] and word not in OPEN_ENDED:
        raise BadLine()


class Desk:
    """A register r, a notebook over it and a paper called desk."""

    def __init__(self):
        self.origin = Register("r", COLUMNS)
        self.book = Notebook([self.origin])
        self.page = Paper("desk", self.book)

    def say(self, line):
        if not isinstance(line, str) or "\n" in line:
            raise BadLine()
        words = line.split(" ")
        check_words(words)
        answer = ANSWERS[words[0]]
        return answer(self, words)
