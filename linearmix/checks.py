"""Whether a program is let by, and what is the first that is wrong with it (point 12)."""

from linearmix.faults import Fault
from linearmix.scripts import Script
from linearmix.trees import need_program


def check(program):
    """None for a program that is let by, else (word, where) of the first that is wrong."""
    need_program(program)
    try:
        Script(program)
    except Fault as fault:
        return (fault.word, fault.where)
    return None


def let_by(program):
    """Whether a program is let by."""
    return check(program) is None
