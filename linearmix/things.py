"""Things of runs: what is told of them, when two are the same, and what ops bring (25, 27)."""

from linearmix.faults import Ended

# Integers, truths and texts are themselves, and this is unit.
UNIT = ()

TOLD_MOST = 200
TEXT_MOST = 200
INTEGER_MOST = 10 ** 60

# So many objects within one another are told whole.
OBJECTS_DEEP = 5


def sort_of(thing):
    """The sort of a thing: int, truth, text, unit, or other."""
    if isinstance(thing, bool):
        return "truth"
    if isinstance(thing, int):
        return "int"
    if isinstance(thing, str):
        return "text"
    return "unit" if isinstance(thing, tuple) else "other"


def are_equal(one, other):
    """Whether two things are the same: by what they are, objects and funs by themselves."""
    return sort_of(one) == sort_of(other) and one == other


def bounded(thing):
    """What an op brings, which ends the run if it is too big."""
    if isinstance(thing, str):
        if len(thing) > TEXT_MOST:
            raise Ended("stop", "size")
    elif abs(thing) >= INTEGER_MOST:
        raise Ended("stop", "size")
    return thing


def op_worth(word, one, other):
    """What an op of two things is; and, or are no ops here."""
    if word == "=":
        return are_equal(one, other)
    if word == "<":
        return one < other
    if word == "-":
        return bounded(one - other)
    return bounded(one * other if word == "*" else one + other)


def told_plain(thing):
    """What is told of a thing that is no object and no fun."""
    if isinstance(thing, bool):
        return "yes" if thing else "no"
    if isinstance(thing, int):
        return str(thing)
    return '"' + thing + '"' if isinstance(thing, str) else "()"


class Teller:
    """Tells things; subclasses tell what is no object, and what stands in one.

    What was told of an object at one depth is kept: while one thing is told nothing changes.
    """

    def __init__(self):
        self.kept = {}

    def told(self, thing, deep):
        """What is told of a thing within so many objects, cut to what may be told."""
        fields = self.fields_of(thing)
        if fields is None:
            return self.told_other(thing)[:TOLD_MOST]
        if deep == OBJECTS_DEEP:
            return ".."
        if (thing, deep) not in self.kept:
            self.kept[(thing, deep)] = self.told_object(thing, fields, deep)[:TOLD_MOST]
        return self.kept[(thing, deep)]

    def told_object(self, thing, fields, deep):
        """What is told of an object whose name, fields and further parts are known."""
        name, numbers, further = fields
        if numbers is not None:
            inner = [self.told(self.field(thing, number), deep + 1) for number in numbers]
            name += "(" + " ".join(inner) + ")"
        return name + "".join(["+" + one for one in further])

    def fields_of(self, thing):
        """The name, the fields or None, and the further parts of an object; None of all else."""
        return None

    def field(self, thing, number):
        """What stands in a field of an object."""
        return thing

    def told_other(self, thing):
        """What is told of a thing that is no object."""
        return told_plain(thing)
