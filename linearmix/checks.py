"""Whether a program is let by, and what is the first that is wrong with it (point 12)."""

from linearmix.faults import Fault
from linearmix.finding import Finder
from linearmix.makers import Makers
from linearmix.model import Model
from linearmix.rounds import first_fault
from linearmix.sites import all_bodies
from linearmix.trees import need_program


def check(program):
    """None for a program that is let by, else (word, where) of the first that is wrong."""
    need_program(program)
    model = Model(program)
    told = first_fault(model)
    if told is not None:
        return told
    finder = Finder(Makers(model, []))
    try:
        for body in all_bodies(model):
            finder.find_body(body)
    except Fault as fault:
        return (fault.word, fault.where)
    return None


def let_by(program):
    """Whether a program is let by."""
    return check(program) is None
