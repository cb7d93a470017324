"""What the small machine goes with beside integers, truths, texts and unit."""

from linearmix.things import Teller, told_plain


class Stuck(Exception):
    """A core asks for what is not there."""


class Instance:
    """An object: the number of its table, and its slots as far as they are filled."""

    def __init__(self, table):
        self.table = table
        self.slots = {}


class Frame:
    """The locals of one working of a body, or of what is in a late, once or fun."""

    def __init__(self, cells):
        self.cells = cells

    def again(self):
        """A frame with a copy of the locals."""
        return Frame(list(self.cells))


class Late:
    """A c that is not worked yet, with the locals as they were."""

    def __init__(self, c, frame):
        self.c = c
        self.frame = frame


class Kept:
    """What is worked once: what it is told as, its c and locals, and what came of it."""

    def __init__(self, label, c, frame):
        self.label = label
        self.c = c
        self.frame = frame
        self.state = "fresh"
        self.worth = None


class CoreFun:
    """A fun: the locals that its params are, its c, and the locals as they were."""

    def __init__(self, numbers, c, frame):
        self.numbers = numbers
        self.c = c
        self.frame = frame


class CoreTeller(Teller):
    """Tells things of a machine; what is late or worked once can not be told."""

    def __init__(self, machine):
        super().__init__()
        self.machine = machine

    def fields_of(self, thing):
        """The name, the fields or None, and the further parts of an object; None of all else."""
        if not isinstance(thing, Instance):
            return None
        return self.machine.tables[thing.table][:3]

    def field(self, thing, number):
        """What stands in a slot of an object."""
        return self.machine.slot_of(thing, number)

    def told_other(self, thing):
        """What is told of a thing that is no object."""
        if isinstance(thing, (Late, Kept)):
            raise Stuck("what is late, or worked once, can not be told")
        return "fun" if isinstance(thing, CoreFun) else told_plain(thing)
