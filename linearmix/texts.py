"""Programs as texts of words and parentheses, written and read."""

from linearmix.errors import BadText
from linearmix.reader import Reader
from linearmix.spelling import TextSource, written
from linearmix.trees import need_program

TEXT_MOST = 20000


def write_program(program):
    """The text of a program, with one blank wherever words are parted."""
    need_program(program)
    return written(program)


def read_program(text):
    """The program that a text writes."""
    return read_sort("program", text)


def read_sort(sort, text):
    """What a text writes, that has to be of a sort; BadText else."""
    if not is_readable(text):
        raise BadText(-1)
    source = TextSource(text)
    thing = Reader(source).read(sort)
    source.finish()
    return thing


def is_readable(thing):
    """Whether any object is a str that could be read at all."""
    return (isinstance(thing, str) and len(thing) <= TEXT_MOST
            and all([c == "\n" or " " <= c <= "~" for c in thing]))
