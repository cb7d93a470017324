"""Programs that are made by chance from a seed, always the same ones, for tests of whole properties."""

import collections
import random

from linearmix.checks import check
from linearmix.forms import is_program
from linearmix.grammar import OPTIONS
from linearmix.walks import is_atom, parts_in, sorts_in
from worlds import (ALL_PROGRAMS, ANY, INT, TEXT, THIS, TRUTH, UNIT, a_def, a_val, above, call, cls, extend, fun, given, lazy, name,
                    new, num, obj, of, op, own_given, text, then, trait, val)

DEFS = {
    "m0": ((), INT), "m1": ((("p", INT, True), ("q", INT, False)), INT), "m2": ((("f", fun(INT, INT), False),), INT),
    "m3": ((("p", TEXT, False),), TEXT), "m4": ((), UNIT), "m5": ((("p", ANY, False),), TEXT)}
BUILD = {"val": a_val, "lazy": lazy, "given": own_given}


class Wild:
    """Makes a program: a skeleton of classes first, then bodies, by the kinds that are wanted."""

    def __init__(self, seed):
        self.r = random.Random(seed)
        self.many = 0
        self.left = 20

    def chance(self, worth):
        return self.r.random() < worth

    def pick(self, things):
        return self.r.choice(list(things))

    def fresh(self):
        self.many += 1
        return "x" + str(self.many)

    def program(self):
        self.rows = {}
        self.orders = {}
        self.givens = [("gi", INT), ("gt", TEXT)][:self.r.randint(0, 2)]
        self.has_extension = self.chance(.4)
        traits = ["T" + str(at) for at in range(self.r.randint(1, 3))]
        for at, one in enumerate(traits):
            self.rows[one] = ("trait", (), [other for other in traits[:at] if self.chance(.5)], self.members(one))
        self.classes = ["C" + str(at) for at in range(self.r.randint(1, 3))]
        for at, one in enumerate(self.classes):
            parents = [self.pick(self.classes[:at])] if at and self.chance(.6) else []
            kinds = [INT, INT, TEXT, fun(INT, INT)] + [of(other) for other in traits]
            vparams = tuple(("k" + str(at) + str(k), self.pick(kinds)) for k in range(self.r.randint(0, 2)))
            self.rows[one] = ("class", vparams, parents + [t for t in traits if self.chance(.4)], self.members(one))
        self.objects = ["o" + str(at) for at in range(self.r.randint(0, 2))]
        for one in self.objects:
            parents = [self.pick(self.classes)] if self.chance(.5) else []
            self.rows[one] = ("object", (), parents + [t for t in traits if self.chance(.3)], self.members(one))
        for one in self.rows:
            self.order(one)
        for one in self.rows:
            self.complete(one)
        definitions = [self.definition(one) for one in self.rows]
        definitions.extend(given(one, kind, self.body(kind, {}, None, 2, 10)) for one, kind in self.givens)
        if self.has_extension:
            inner = self.body(INT, {"x": INT}, None, 3, 20)
            definitions.append(extend("ex", ("x", INT), a_def("ext", INT, inner, params=(("p", INT, self.chance(.5)),))))
        self.r.shuffle(definitions)
        return (tuple(definitions), self.body(self.pick([INT, TEXT, UNIT, ANY]), {}, None, 6, 35))

    def order(self, one):
        found = []
        for parent in self.rows[one][2]:
            found.extend(other for other in reversed(self.orders[parent]) if other not in found)
        self.orders[one] = (one,) + tuple(reversed(found))

    def members(self, one):
        found = []
        for x in DEFS:
            if self.chance(.3):
                found.append(("def", x, self.chance(.75) or one[0] != "T"))
        for at in range(2):
            if self.chance(.35):
                found.append(("val", "v" + one.lower() + str(at), True, self.pick([INT, INT, TEXT, fun(INT, INT)])))
            if self.chance(.3):
                found.append(("lazy", "l" + one.lower() + str(at), True, self.pick([INT, TEXT])))
        if one[0] == "T" and self.chance(.3):
            found.append(("val", "w" + one.lower(), False, INT))
        if self.chance(.2):
            found.append(("given", "g" + one.lower(), True, self.pick([INT, TEXT])))
        return found

    def complete(self, one):
        word, vparams, parents, members = self.rows[one]
        if word != "trait":
            rows = [member for other in self.orders[one] for member in self.rows[other][3]]
            bodies = [member[1] for member in rows if member[2]]
            own = {member[1]: member for member in members}
            for member in rows:
                if member[1] not in bodies:
                    own[member[1]] = member[:2] + (True,) + member[3:]
            self.rows[one] = (word, vparams, parents, list(own.values()))

    def definition(self, one):
        word, vparams, parents, members = self.rows[one]
        rows = tuple((other, (), tuple(self.body(kind, dict(vparams), None, 2, 12) for _, kind in self.rows[other][1]))
                     for other in parents)
        told = tuple(self.member(one, member) for member in members)
        if word == "object":
            return obj(one, *told, parents=rows)
        return trait(one, *told, parents=rows) if word == "trait" else cls(one, *told, vparams=vparams, parents=rows)

    def member(self, one, member):
        word, x, has_body = member[:3]
        if word == "def":
            params, kind = DEFS[x]
            names = {param: told for param, told, _ in params}
            return a_def(x, kind, self.body(kind, names, one, 4, 24) if has_body else None, params=params)
        return BUILD[word](x, member[3], self.body(member[3], {}, one, 3, 24) if has_body else None)

    def body(self, kind, names, this, deep, most):
        self.left = most
        return self.e(kind, names, this, deep)

    def e(self, kind, names, this, deep):
        self.left -= 1
        if kind == ANY:
            kind = self.pick([INT, TEXT, TRUTH, UNIT] + [of(one) for one in self.rows])
        if self.left < 0 or deep == 0:
            return self.leaf(kind, names, this, 0)
        ways = [self.leaf, self.leaf, self.passing, self.passing, self.binding, self.binding, self.match, self.match]
        ways.extend([self.asked] * 5 + ([self.own] * 5 if this else []))
        return self.pick(ways)(kind, names, this, deep)

    def passing(self, kind, names, this, deep):
        way = self.r.randint(0, 10)
        if way < 3:
            return ("if", self.e(TRUTH, names, this, deep - 1), self.e(kind, names, this, deep - 1),
                    self.e(kind, names, this, deep - 1))
        if way < 7:
            return then(("show", self.e(ANY, names, this, deep - 1)), self.e(kind, names, this, deep - 1))
        if way == 7 and self.chance(.3):
            return ("stop", "end")
        return ("apply", self.e(fun(INT, kind), names, this, deep - 1), (self.e(INT, names, this, deep - 1),))

    def binding(self, kind, names, this, deep):
        own = self.pick([INT, TEXT, fun(INT, INT)] + [of(one) for one in self.rows])
        x = self.fresh()
        first = self.e(own, names, this, deep - 1)
        return (self.pick(["let", "lazy", "given"]), x, own, first, self.e(kind, {**names, x: own}, this, deep - 1))

    def match(self, kind, names, this, deep):
        base = self.pick(self.rows)
        cases = []
        for one in self.rows:
            if base in self.orders[one] and self.rows[one][0] != "trait" and len(cases) < 6:
                inner = dict(names)
                cases.append((self.pattern(one, inner), self.e(kind, inner, this, deep - 1)))
        self.r.shuffle(cases)
        if not cases or self.chance(.5):
            cases.append((ANY, self.e(kind, names, this, deep - 1)))
        return self.with_thing(base, names, this, deep, lambda on: ("match", on, tuple(cases[:8])))

    def with_thing(self, one, names, this, deep, work):
        """What is done with a thing of just the kind of a class."""
        on = self.e(of(one), names, this, deep - 1)
        if on[0] == "new" and on[1][0][0] == one or on == THIS and one == this:
            return work(on)
        x = self.fresh()
        return ("let", x, of(one), on, work(name(x)))

    def pattern(self, one, names):
        if self.rows[one][0] == "object" or self.chance(.3):
            x = self.fresh()
            names[x] = of(one)
            return ("is", x, one)
        patterns = []
        for _, kind in self.rows[one][1]:
            x = self.fresh()
            if kind == INT and self.chance(.3):
                patterns.append(("lit", num(self.r.randint(0, 2))))
            else:
                patterns.append(("bind", x))
                names[x] = kind
        return ("of", one, tuple(patterns))

    def own(self, kind, names, this, deep):
        return self.from_members(kind, names, this, deep, this, THIS)

    def asked(self, kind, names, this, deep):
        if kind == INT and self.has_extension and self.chance(.1):
            return call(self.e(INT, names, this, deep - 1), "ext", self.e(INT, names, this, deep - 1))
        one = self.pick(self.rows)
        return self.from_members(kind, names, this, deep, one, None)

    def from_members(self, kind, names, this, deep, one, on):
        rows = {}
        for other in self.orders[one]:
            for x, told in self.rows[other][1]:
                rows.setdefault(x, ("val", x, True, told))
            for member in self.rows[other][3]:
                rows.setdefault(member[1], member)
        fits = [row for row in rows.values() if (DEFS[row[1]][1] if row[0] == "def" else row[3]) == kind]
        if not fits:
            return self.leaf(kind, names, this, deep)
        row = self.pick(fits)
        if row[0] != "def":
            return val(on, row[1]) if on else self.with_thing(one, names, this, deep, lambda other: val(other, row[1]))
        args = tuple(self.e(told, names, this, deep - 1) for _, told, _ in DEFS[row[1]][0])
        behind = [member[1] for other in self.orders[one][1:] for member in self.rows[other][3]]
        if on and row[1] in behind and self.chance(.5):
            return above(row[1], *args)
        if on:
            return call(on, row[1], *args)
        return self.with_thing(one, names, this, deep, lambda other: call(other, row[1], *args))

    def leaf(self, kind, names, this, deep):
        fits = [x for x in names if names[x] == kind]
        if fits and self.chance(.6):
            return name(self.pick(fits))
        if kind == INT:
            if deep > 0 and self.chance(.3):
                return op(self.pick("+-*"), self.e(INT, names, this, deep - 1), self.e(INT, names, this, deep - 1))
            return ("summon", INT) if self.givens and self.chance(.2) else num(self.r.randint(-2, 3))
        if kind == TEXT:
            if deep > 0 and self.chance(.4):
                return op("join", self.e(TEXT, names, this, deep - 1), self.e(TEXT, names, this, deep - 1))
            return text(self.pick(["", "a", "bc"]))
        if kind == TRUTH and deep > 0 and self.chance(.7):
            word, own = self.pick([("and", TRUTH), ("or", TRUTH), ("<", INT), ("=", INT), ("=", ANY)])
            return op(word, self.e(own, names, this, deep - 1), self.e(own, names, this, deep - 1))
        if kind == TRUTH:
            return ("truth", self.chance(.5))
        if kind == UNIT:
            return ("show", self.e(ANY, names, this, deep - 1)) if deep > 0 and self.chance(.5) else ("unit",)
        if kind[0] == "fun":
            x = self.fresh()
            return ("fun", ((x, INT),), self.e(kind[2], {**names, x: INT}, this, max(deep - 1, 0)) if deep >= 0 else
                    self.leaf(kind[2], {**names, x: INT}, this, deep))
        return self.thing(kind[1], names, this, deep)

    def thing(self, one, names, this, deep):
        if this and one in self.orders[this] and self.chance(.5):
            return THIS
        objects = [other for other in self.objects if one in self.orders[other]]
        if objects and self.chance(.5):
            return name(self.pick(objects))
        classes = [other for other in self.classes if one in self.orders[other]]
        if not classes or deep < 0:
            return name(self.pick(objects)) if objects else ("stop", "none")
        own = self.pick(classes)
        args = [self.e(kind, names, this, deep - 1) if deep else self.leaf(kind, names, this, -1)
                for _, kind in self.rows[own][1]]
        return new(own, *args, more=self.more(own))

    def more(self, own):
        found = []
        for one in self.rows:
            if self.rows[one][0] == "trait" and self.chance(.2):
                classes = [other for part in [own] + found + [one] for other in self.orders[part]]
                members = [member for other in classes for member in self.rows[other][3]]
                bodies = [member[1] for member in members if member[2]]
                if all(member[1] in bodies for member in members):
                    found.append(one)
        return tuple(found)


def wild_programs(first, many):
    """So many programs that are let by, from a seed on."""
    found = []
    while len(found) < many:
        program = Wild(first).program()
        first += 1
        if is_program(program) and check(program) is None:
            found.append(program)
    return found


# What is exchanged for another one of its sort.
CHANGED = ("pattern", "tree", "kind", "member", "truth", "sign", "kinds or none", "use", "member use", "class",
           "class or object", "parents", "members", "case")


def nodes(sort, thing, path):
    """(sort, thing, path) of all that stands in a thing of a sort."""
    if thing is None:
        return []
    sort = OPTIONS.get(sort, sort)
    found = [(sort, thing, path)]
    if not is_atom(sort):
        for at, (inner, one) in enumerate(zip(sorts_in(sort, thing), parts_in(sort, thing))):
            found.extend(nodes(inner, one, path + (at,)))
    return found


def exchanged(sort, thing, path, other):
    """A thing of a sort with another one at a path."""
    if not path:
        return other
    sort = OPTIONS.get(sort, sort)
    parts = parts_in(sort, thing)
    head = thing[:len(thing) - len(parts)]
    parts[path[0]] = exchanged(sorts_in(sort, thing)[path[0]], parts[path[0]], path[1:], other)
    return head + tuple(parts)


def changed_programs(seed, tries):
    """Programs that are let by: one of the world's, changed here and there, again and again."""
    r = random.Random(seed)
    program = r.choice(ALL_PROGRAMS)
    pool = collections.defaultdict(list)
    for one in (program, r.choice(ALL_PROGRAMS)):
        for sort, thing, _ in nodes("program", one, ()):
            pool[sort].append(thing)
    found = []
    for _ in range(tries):
        sort, _, path = r.choice([node for node in nodes("program", program, ()) if node[0] in CHANGED])
        other = exchanged("program", program, path, r.choice(pool[sort]))
        if other != program and is_program(other) and check(other) is None:
            program = other
            found.append(program)
    return found
