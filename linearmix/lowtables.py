"""The tables, bodies and singles of a lowered core (point 33)."""

from linearmix.foundtree import all_found
from linearmix.lowbody import LowBody, LowReach, call_selector, super_selector
from linearmix.model import form_of
from linearmix.scripts import is_single

# So many fills stand within one another; more are done one after the other.
FILLS_WITHIN = 40

UNIT_C = ("unit",)


class Lowering:
    """A script that is lowered; a body is told by a key, and is made when its number is asked for."""

    def __init__(self, script):
        self.script = script
        self.model = script.model
        self.made = script.parts_made()
        members = [name for entry in self.model.classes.values() for name in entry.table
                   if form_of(entry.table[name]) in ("val", "lazy", "given")]
        self.slots = sorted({name for name in members})
        single_names = [one[1] for one in self.model.definitions if is_single(one)]
        self.singles = {name: number for number, name in enumerate(single_names)}
        self.asked_for = []
        self.supers = self.all_supers()

    def all_supers(self):
        """The (class, name) of all supers of the program, each once."""
        found = []
        for where in self.script.bodies:
            for node in all_found(self.script.bodies[where]):
                if node.tree[0][0] == "super" and (where[0], node.tree[0][1]) not in found:
                    found.append((where[0], node.tree[0][1]))
        return found

    def core(self):
        """The core."""
        main = self.number(("body", ()))
        singles = tuple([(self.number(("single", name)), name) for name in self.singles])
        tables = tuple([self.table(number) for number in range(len(self.made))])
        bodies = []
        while len(bodies) < len(self.asked_for):
            bodies.append(self.body(self.asked_for[len(bodies)]))
        return (tables, tuple(bodies), singles, main)

    def number(self, key):
        """The number of the body that a key tells."""
        if key not in self.asked_for:
            self.asked_for.append(key)
        return self.asked_for.index(key)

    def order(self, number):
        """The order of the objects of a table."""
        return self.script.order(self.made[number])

    def tables_of(self, name):
        """The numbers of the tables whose objects are of a class."""
        return tuple([number for number in range(len(self.made)) if name in self.order(number)])

    def slot(self, name):
        """The number of the slot for a val, lazy or given, the same in all tables."""
        return self.slots.index(name)

    def table(self, number):
        """The table of a number."""
        names = self.made[number]
        order = self.order(number)
        told = None
        if not self.model.is_object(names[0]):
            told = tuple([self.slot(name) for name, _ in self.model.classes[names[0]].vparams])
        slots = tuple([self.slot_text(order, name) for name in self.slots])
        begin = self.number(("begin", number))
        return (names[0], told, names[1:], slots, self.rows(order), begin)

    def slot_text(self, order, name):
        """What is told where a slot is unready; texts of slots that are none in an order are unlike."""
        owner = self.model.first_body(order, name)
        return (owner if owner is not None else "-") + " " + name

    def rows(self, order):
        """The rows of a table: for calls of defs, and for supers."""
        rows = []
        for name in self.model.member_names(order):
            owner = self.model.first_body(order, name)
            if owner is not None and self.model.classes[owner].table[name][0] == "def":
                rows.append((call_selector(name), self.number(("body", (owner, name)))))
        for above, name in self.supers:
            if above in order:
                owner = self.model.first_body(order[order.index(above) + 1:], name)
                if owner is not None:
                    rows.append((super_selector(above, name), self.number(("body", (owner, name)))))
        return tuple(sorted(rows))

    def body(self, key):
        """The body of a key."""
        word, told = key
        if word == "begin":
            return self.begin(told)
        if word == "single":
            if self.model.is_object(told):
                return (0, 0, ("make", self.made.index((told,)), ()))
            word, told = "body", (told,)
        if told == ():
            return LowBody(self, 0).whole(self.script.bodies[told], LowReach(None))
        params, reach = self.reach(told)
        return LowBody(self, params).whole(self.script.bodies[told], reach)

    def reach(self, where):
        """How many params a body has, and what is in reach of it."""
        definition = self.script.definition(where[0])
        reach = LowReach(where[0])
        if definition[0] == "given":
            return len(definition[3]), reach.with_givens(definition[3], 0)
        if definition[0] == "extend":
            member = self.script.def_of(where[0], where[1])
            reach = reach.with_params([(definition[3][0], definition[3][1], False)], 0)
            behind = 1 + len(member[3])
            reach = reach.with_givens(definition[4], behind)
            reach = reach.with_params(member[3], 1)
            behind += len(definition[4])
            return behind + len(member[4]), reach.with_givens(member[4], behind)
        if isinstance(where[1], int):
            return 1, reach.with_slots(self, definition)
        member = self.model.classes[where[0]].table[where[1]]
        if member[0] != "def":
            return 1, reach
        reach = reach.with_params(member[3], 1).with_givens(member[4], 1 + len(member[3]))
        return 1 + len(member[3]) + len(member[4]), reach

    def begin(self, number):
        """The body that makes an object of a table ready."""
        names = self.made[number]
        vparams = self.model.classes[names[0]].vparams
        fills = [(name, ("local", 1 + at)) for at, (name, _) in enumerate(vparams)]
        fills.extend(self.parent_fills(names[0]))
        order = self.order(number)
        for name in self.model.member_names(order):
            owner = self.model.first_body(order, name)
            if owner is not None and self.model.classes[owner].table[name][0] in ("lazy", "given"):
                fills.append((name, ("once", owner + " " + name, self.own_call((owner, name)))))
        for where in self.script.val_bodies(order):
            fills.append((where[1], self.own_call(where)))
        return (1 + len(vparams), 0, all_fills([(self.slot(name), c) for name, c in fills]))

    def parent_fills(self, name):
        """The fills of the vparams of the classes above one, nearest first."""
        vparams = [row for row in self.script.vparam_order(name) if row[0] != name]
        wheres = self.script.arg_bodies(name)
        return [(vparam, self.own_call(where)) for (_, vparam), where in zip(vparams, wheres)]

    def own_call(self, where):
        """The c that begins a body with this alone."""
        return ("direct", self.number(("body", where)), (("local", 0),))


def all_fills(fills):
    """The c that fills slots, one after the other."""
    parts = []
    for start in range(0, len(fills), FILLS_WITHIN):
        c = UNIT_C
        for number, worth in reversed(list(fills[start:start + FILLS_WITHIN])):
            c = ("fill", number, worth, c)
        parts.append(c)
    told = parts.pop() if parts else UNIT_C
    for part in reversed(list(parts)):
        told = ("then", part, told)
    return told
