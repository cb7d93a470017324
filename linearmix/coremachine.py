"""The small machine: runs of cores (points 31, 32), by a stack of tasks."""

from linearmix.corethings import CoreTeller, Frame, Instance, Kept, Stuck
from linearmix.corework import BEGINS, ENDS
from linearmix.faults import Ended

UNDER_WAY_MOST = 6000


class Machine:
    """A run of a core: tasks to be done, the last first, and worths that came of those done.

    A task is a c with the frame that it is worked in, or a word of ENDS with what it goes with.
    """

    def __init__(self, core, bound):
        self.tables, self.bodies, self.singles, self.main = core
        self.rows = [{selector: number for selector, number in table[4]} for table in self.tables]
        self.bound = bound
        self.steps = 0
        self.depth = 0
        self.shown = []
        self.begun = []
        self.tasks = []
        self.worths = []
        self.once_worked = [Kept(label, None, None) for _, label in self.singles]

    def outcome(self):
        """(word, told, shown) of the run."""
        try:
            # The first beginning of main's does not count as being under way.
            self.depth = -1
            self.begin(self.main, [])
            self.work()
            return ("value", self.told(self.worths.pop()), list(self.shown))
        except Ended as ended:
            return (ended.word, ended.text, list(self.shown))
        except Stuck:
            return ("stuck", "", list(self.shown))

    def work(self):
        """Does all tasks."""
        while self.tasks:
            word, thing, frame = self.tasks.pop()
            if word != "c":
                work = ENDS[word]
                work(self, thing, frame)
                continue
            if self.steps == self.bound:
                raise Ended("steps", "")
            self.steps += 1
            work = BEGINS[thing[0]]
            work(self, thing, frame)

    def add(self, tasks):
        """Adds tasks, of which the first one is done first."""
        self.tasks.extend(list(reversed(list(tasks))))

    def taken(self, many):
        """The last so many worths, which are taken away."""
        start = len(self.worths) - many
        worths = self.worths[start:]
        del self.worths[start:]
        return worths

    def begin(self, number, worths):
        """Begins a body with what its params are."""
        params, further, c = self.bodies[number]
        if len(worths) != params:
            raise Stuck("another number of params")
        if self.depth == UNDER_WAY_MOST:
            raise Ended("deep", "")
        self.depth += 1
        self.begun.append(number)
        frame = Frame(list(worths) + [None] * further)
        self.add([("c", c, frame), ("leave", None, frame)])

    def told(self, thing):
        """What is told of a thing."""
        return CoreTeller(self).told(thing, 0)

    def slot_of(self, thing, number):
        """What stands in a slot of an object."""
        slots = self.tables[self.instance(thing).table][3]
        if number >= len(slots):
            raise Stuck("no such slot")
        if number not in thing.slots:
            raise Ended("unready", slots[number])
        return thing.slots[number]

    def instance(self, thing):
        """A thing that has to be an object."""
        if not isinstance(thing, Instance):
            raise Stuck("no object")
        return thing
