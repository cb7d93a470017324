"""Cores: what is one, and how the small machine runs it."""

from linearmix.coreform import is_core_form
from linearmix.coremachine import Machine
from linearmix.counting import CORE_MOST, need_count
from linearmix.errors import BadCore


def is_core(thing):
    """Whether any object is a core."""
    return is_core_form(thing)


def need_core(thing):
    """Raises BadCore, if an object is no core."""
    if not is_core_form(thing):
        raise BadCore("the object is no core")


def run_core(core, steps):
    """The outcome of a core: how it ended, with what, and what it showed."""
    need_core(core)
    need_count(steps, CORE_MOST)
    return Machine(core, steps).outcome()


def begun_bodies(core, steps):
    """The numbers of the bodies that are begun, in their sequence."""
    need_core(core)
    need_count(steps, CORE_MOST)
    machine = Machine(core, steps)
    machine.outcome()
    return list(machine.begun)
