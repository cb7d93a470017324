"""Desks: sessions that are told what to do by rows of text."""

from linearmix.cores import run_core
from linearmix.counting import CORE_MOST, PLAIN_MOST
from linearmix.errors import BadCommand
from linearmix.givens import find_given
from linearmix.lowering import lowered
from linearmix.orders import order_of
from linearmix.runs import run
from linearmix.session import Session
from linearmix.shapes import unsure
from linearmix.spelling import written
from linearmix.texts import read_sort

# How many NAMEs stand behind each word, and whether a TEXT does.
FORMS = {
    "define": (0, True),
    "line": (1, True),
    "kind": (0, True),
    "order": (1, False),
    "given": (0, True),
    "unsure": (0, False),
    "shown": (0, False),
    "undo": (0, False),
    "same": (0, False),
}


def parts_of(row):
    """The word of a row, its NAME and its TEXT, "" where there is none; BadCommand for no row."""
    if not isinstance(row, str):
        raise BadCommand("the object is no row")
    word, blank, rest = row.partition(" ")
    if word not in FORMS:
        raise BadCommand("the row begins with no such word")
    names, has_text = FORMS[word]
    if (blank == " ") != (names > 0 or has_text):
        raise BadCommand("the row has something too many, or too little")
    name = ""
    if names:
        name, blank, rest = rest.partition(" ")
        if name == "" or (blank == " ") != has_text:
            raise BadCommand("the row has no NAME, or something too many, or too little")
    return word, name, rest


class Desk:
    """Holds a session, and answers rows."""

    def __init__(self):
        self.session = Session()

    def say(self, row):
        """The answer to a row."""
        word, name, text = parts_of(row)
        answer = ANSWERS[word]
        return answer(self.session, name, text)


def answer_define(session, name, text):
    """A definition is added."""
    session.define(read_sort("definition", text))
    return "ok"


def answer_line(session, name, text):
    """A line is added; NAME is -0 for none."""
    e = read_sort("tree", text)
    word, told, _ = session.line(None if name == "-0" else name, e)
    return word + " " + told


def answer_kind(session, name, text):
    """The kind of an expression."""
    return written(session.kind(read_sort("tree", text)))


def answer_order(session, name, text):
    """The order of a class."""
    return " ".join(order_of(session.program(), name))


def answer_given(session, name, text):
    """The outermost given that is found for a kind."""
    kind = read_sort("kind", text)
    word, told = find_given(session.program(), (), kind)
    return "found " + told[0] if word == "found" else word


def answer_unsure(session, name, text):
    """How many matches miss a shape."""
    return str(len(unsure(session.program())))


def answer_shown(session, name, text):
    """How many texts the lines showed."""
    return str(len(session.shown()))


def answer_undo(session, name, text):
    """The last is taken back."""
    session.undo()
    return "ok"


def answer_same(session, name, text):
    """Whether the machine tells the same as the plain rules."""
    told = run(session.program(), PLAIN_MOST)
    if told[0] in ("steps", "deep"):
        return "yes"
    return "yes" if run_core(lowered(session.program()), CORE_MOST) == told else "no"


ANSWERS = {
    "define": answer_define, "line": answer_line, "kind": answer_kind, "order": answer_order,
    "given": answer_given, "unsure": answer_unsure, "shown": answer_shown, "undo": answer_undo,
    "same": answer_same,
}
