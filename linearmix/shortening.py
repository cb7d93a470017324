"""Cores with less in them that do the same (point 35)."""

from linearmix.corewalk import all_cs, rebuilt
from linearmix.reaching import Reach

# What brings nothing about when it is worked.
IDLE = ("int", "text", "truth", "unit", "local", "fun", "late")


class Direct:
    """A core whose sends are directs, where each table reached has the same body for them."""

    def __init__(self, core):
        self.tables, self.bodies, self.singles, self.main = core
        self.reach = Reach(core)
        self.kept = {}

    def core(self):
        """The core so changed."""
        bodies = []
        for number, (params, further, c) in enumerate(self.bodies):
            if number in self.reach.bodies:
                c = rebuilt(c, self.changed)
            bodies.append((params, further, c))
        return (self.tables, tuple(bodies), self.singles, self.main)

    def changed(self, c):
        """A c, which is a direct now if it is such a send."""
        if c[0] != "send":
            return c
        cs = (c[1],) + c[3]
        number = self.one_body(c[2])
        if number is None or self.bodies[number][0] != len(cs):
            return c
        return ("direct", number, cs)

    def one_body(self, selector):
        """The one body that all tables reached have for a selector; None if there is no one."""
        if selector not in self.kept:
            found = []
            for table in self.reach.made:
                told = [number for one, number in self.tables[table][4] if one == selector]
                found.append(told[0] if told else None)
            alike = found and all([number == found[0] for number in found])
            self.kept[selector] = found[0] if alike else None
        return self.kept[selector]


class Left:
    """A core without what is not reached."""

    def __init__(self, core):
        self.tables, self.bodies, self.singles, self.main = core
        reach = Reach(core)
        bodies, tables = reach.told()
        cs = reach.cs()
        singles = sorted({c[1] for c in cs if c[0] == "single"})
        self.selectors = {c[2]: True for c in cs if c[0] == "send"}
        self.body_numbers = {old: number for number, old in enumerate(bodies)}
        self.table_numbers = {old: number for number, old in enumerate(tables)}
        self.single_numbers = {old: number for number, old in enumerate(singles)}

    def core(self):
        """The core so changed."""
        bodies = [self.bodies[old] for old in self.body_numbers]
        singles = [self.singles[old] for old in self.single_numbers]
        return (tuple([self.table(self.tables[old]) for old in self.table_numbers]),
                tuple([(params, further, rebuilt(c, self.changed)) for params, further, c in bodies]),
                tuple([(self.body_numbers[number], label) for number, label in singles]),
                self.body_numbers[self.main])

    def table(self, table):
        """A table with the numbers as they are now, without rows that no send asks for."""
        name, told, further, slots, rows, begin = table
        kept = tuple([(selector, self.body_numbers[number]) for selector, number in rows
                      if selector in self.selectors])
        return (name, told, further, slots, kept, self.body_numbers[begin])

    def changed(self, c):
        """A c with the numbers as they are now."""
        if c[0] == "direct":
            return ("direct", self.body_numbers[c[1]], c[2])
        if c[0] == "make":
            return ("make", self.table_numbers[c[1]], c[2])
        if c[0] == "single":
            return ("single", self.single_numbers[c[1]])
        if c[0] == "among":
            numbers = tuple([self.table_numbers[old] for old in c[2] if old in self.table_numbers])
            return ("among", c[1], numbers)
        return c


class Short:
    """A body with shorter c's; read are the locals that are read somewhere in it."""

    def __init__(self, body):
        self.params, self.further, self.c = body
        self.read = {}
        self.numbers = {}

    def body(self):
        """The body so changed."""
        many = 0
        while many != len(all_cs(self.c)):
            many = len(all_cs(self.c))
            self.read = {c[1]: True for c in all_cs(self.c) if c[0] == "local"}
            self.c = rebuilt(self.c, self.changed)
        kept = list(range(self.params)) + sorted(self.bound())
        self.numbers = {old: number for number, old in enumerate(kept)}
        return (self.params, len(kept) - self.params, rebuilt(self.c, self.renumbered))

    def bound(self):
        """The locals that stand at a let, or in a fun's numbers."""
        found = []
        for c in all_cs(self.c):
            if c[0] == "let":
                found.append(c[1])
            elif c[0] == "fun":
                found.extend(list(c[1]))
        return found

    def changed(self, c):
        """What is as good as a c, in which all is short already."""
        if c[0] == "if" and c[1][0] == "truth":
            return c[2] if c[1][1] else c[3]
        if c[0] == "then" and c[1][0] in IDLE:
            return c[2]
        if c[0] == "let" and c[2][0] in IDLE and c[1] not in self.read:
            return c[3]
        if c[0] == "first" and c[1][0] == "once":
            return c[1][2]
        if c[0] == "now" and c[1][0] == "late":
            return c[1][1]
        return c

    def renumbered(self, c):
        """A c with the numbers of locals as they are now."""
        if c[0] == "local":
            return ("local", self.numbers[c[1]])
        if c[0] == "let":
            return ("let", self.numbers[c[1]], c[2], c[3])
        if c[0] == "fun":
            return ("fun", tuple([self.numbers[number] for number in c[1]]), c[2])
        return c


def size_of_core(core):
    """What gets less if something of a core is changed by one of the ways to make it better."""
    tables, bodies, singles, _ = core
    cs = [c for body in bodies for c in all_cs(body[2])]
    sends = [c for c in cs if c[0] == "send"]
    return (len(cs), len(sends), len(bodies), len(tables), len(singles),
            sum([len(table[4]) for table in tables]), sum([body[1] for body in bodies]))
