"""What a core is: the form of points 30 to 32, gone through without nesting."""

from linearmix.atoms import is_integer
from linearmix.corewalk import CFORMS, cs_in

TABLES_MOST = 60
SINGLES_MOST = 60
BODIES_MOST = 600
LOCALS_MOST = 400
CS_DEEP = 240
TEXT_MOST = 80

OP_WORDS = ("+", "-", "*", "<", "=", "join")
STOP_WORDS = ("stop", "unmatched")

# The working of what stands in these has locals of its own.
CLOSED = ("late", "once", "fun")


def is_number(thing, bound):
    """Whether any object is an integer from 0 below a bound."""
    return is_integer(thing) and 0 <= thing < bound


def is_label(thing):
    """Whether any object is a text of a core, of one to eighty characters."""
    return isinstance(thing, str) and thing != "" and is_text(thing)


def is_text(thing):
    """Whether any object is a text of none to eighty characters."""
    return isinstance(thing, str) and len(thing) <= TEXT_MOST and all([" " <= c <= "~" for c in thing])


def is_row(thing, many):
    """Whether any object is a tuple of so many."""
    return isinstance(thing, tuple) and len(thing) == many


def are_ascending(things):
    """Whether things of one sort ascend, nothing twice."""
    return all([one < other for one, other in zip(things, things[1:])])


def are_labels(thing):
    """Whether any object is a tuple of texts of a core."""
    return isinstance(thing, tuple) and all([is_label(one) for one in thing])


class CoreForm:
    """Looks whether any object is a core."""

    def __init__(self, thing):
        self.thing = thing
        self.params = []

    def holds(self):
        """Whether the object is a core."""
        if not is_row(self.thing, 4):
            return False
        tables, bodies, singles, main = self.thing
        for part, most in ((tables, TABLES_MOST), (bodies, BODIES_MOST), (singles, SINGLES_MOST)):
            if not isinstance(part, tuple) or len(part) > most:
                return False
        if not all([self.is_frame(body) for body in bodies]):
            return False
        self.params = [body[0] for body in bodies]
        if not is_number(main, len(bodies)) or self.params[main] != 0:
            return False
        return (all([self.is_table(table) for table in tables])
                and all([self.is_single(single) for single in singles])
                and all([BodyForm(self.thing, body).holds() for body in bodies]))

    def is_frame(self, body):
        """Whether any object is a body but for its c."""
        if not is_row(body, 3) or not is_number(body[0], LOCALS_MOST + 1):
            return False
        return is_number(body[1], LOCALS_MOST + 1) and body[0] + body[1] <= LOCALS_MOST

    def has_this(self, number):
        """Whether any object is the number of a body with a param."""
        return is_number(number, len(self.params)) and self.params[number] > 0

    def is_single(self, single):
        """Whether any object is a single."""
        if not is_row(single, 2) or not is_label(single[1]):
            return False
        return is_number(single[0], len(self.params)) and self.params[single[0]] == 0

    def is_table(self, table):
        """Whether any object is a table."""
        if not is_row(table, 6):
            return False
        name, told, further, slots, rows, begin = table
        if not is_label(name) or not are_labels(further) or not are_labels(slots):
            return False
        if len({slot for slot in slots}) != len(slots):
            return False
        if told is not None:
            if not isinstance(told, tuple) or not all([is_number(one, len(slots)) for one in told]):
                return False
        return self.are_rows(rows) and self.has_this(begin)

    def are_rows(self, rows):
        """Whether any object is a tuple of rows of a table."""
        if not isinstance(rows, tuple):
            return False
        for row in rows:
            if not is_row(row, 2) or not is_label(row[0]) or not self.has_this(row[1]):
                return False
        return are_ascending([row[0] for row in rows])


class BodyForm:
    """Looks whether what stands in a body is a c; tasks are c's and what begins and ends behind them."""

    def __init__(self, core, body):
        self.core = core
        self.params, further, self.c = body
        self.total = self.params + further
        self.in_reach = {number: True for number in range(self.params)}
        self.bound = {}
        self.closed = 0
        self.tasks = []

    def holds(self):
        """Whether the body is right."""
        self.tasks = [("c", self.c, 1)]
        while self.tasks:
            word, thing, deep = self.tasks.pop()
            if word == "open":
                self.in_reach[thing] = True
            elif word == "close":
                del self.in_reach[thing]
            elif word == "closed":
                self.closed += thing
            elif deep > CS_DEEP or not self.is_c(thing, deep):
                return False
        return len(self.bound) == self.total - self.params

    def is_c(self, c, deep):
        """Whether any object is a c but for what stands in it, which becomes tasks."""
        if not isinstance(c, tuple) or not c or not isinstance(c[0], str) or c[0] not in CFORMS:
            return False
        form = CFORMS[c[0]]
        if len(c) != 1 + len(form):
            return False
        if not all([self.fits(sort, part) for sort, part in zip(form, c[1:])]):
            return False
        if c[0] == "fill" and (self.closed > 0 or self.params == 0):
            return False
        if not self.has_many(c) or not self.binds(self.bound_by(c)):
            return False
        self.add(c, deep + 1)
        return True

    def add(self, c, deep):
        """Adds what stands in a c as tasks; the names it binds are open in its last c."""
        names = self.bound_by(c)
        inner = [("c", one, deep) for one in cs_in(c)]
        if names:
            inner = (inner[:-1] + [("open", name, 0) for name in names] + inner[-1:]
                     + [("close", name, 0) for name in names])
        if c[0] in CLOSED:
            inner = [("closed", 1, 0)] + inner + [("closed", -1, 0)]
        self.tasks.extend(list(reversed(list(inner))))

    def bound_by(self, c):
        """The locals that a c binds."""
        if c[0] == "let":
            return [c[1]]
        return list(c[1]) if c[0] == "fun" else []

    def binds(self, names):
        """Whether locals may be bound here, which they are then."""
        for name in names:
            if not is_number(name, self.total) or name < self.params or name in self.bound:
                return False
            self.bound[name] = True
        return True

    def has_many(self, c):
        """Whether a direct or a make has as many c's as there are params."""
        bodies = self.core[1]
        if c[0] == "direct":
            return len(c[2]) == bodies[c[1]][0]
        if c[0] == "make":
            return len(c[2]) + 1 == bodies[self.core[0][c[1]][5]][0]
        return True

    def fits(self, sort, part):
        """Whether any object may stand in a c where a sort is wanted; of c's they are tuples."""
        tables, bodies, singles, _ = self.core
        if sort in ("c", "cs", "local numbers"):
            return isinstance(part, tuple)
        if sort in ("integer", "number", "new local"):
            return is_integer(part) and (sort == "integer" or part >= 0)
        if sort == "local":
            return is_integer(part) and part in self.in_reach
        if sort == "text":
            return is_text(part)
        if sort == "truth":
            return isinstance(part, bool)
        if sort in ("label", "selector"):
            return is_label(part)
        if sort in ("op word", "stop word"):
            return isinstance(part, str) and part in (OP_WORDS if sort == "op word" else STOP_WORDS)
        if sort == "tables":
            return (isinstance(part, tuple) and all([is_number(one, len(tables)) for one in part])
                    and are_ascending(part))
        if sort == "body":
            return is_number(part, len(bodies))
        return is_number(part, len(tables if sort == "table" else singles))


def is_core_form(thing):
    """Whether any object is a core."""
    return CoreForm(thing).holds()
