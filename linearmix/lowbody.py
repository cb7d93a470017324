"""Expressions lowered to c's (point 33), in a body with numbered locals."""

from linearmix.lowmatch import bound_paths, test_of
from linearmix.scripts import is_single

THIS = ("local", 0)


def call_selector(name):
    """The selector of a def; names have no blank, so it is none."""
    return "call " + name


def super_selector(owner, name):
    """The selector of a super in a class."""
    return "super " + owner + " " + name


class LowReach:
    """What is in reach where something is lowered: the class or definition, and c's for names."""

    def __init__(self, owner):
        self.owner = owner
        self.names = {}
        self.givens = {}

    def copied(self):
        """The same, to be changed by its maker."""
        other = LowReach(self.owner)
        other.names = dict(self.names)
        other.givens = dict(self.givens)
        return other

    def with_name(self, name, c):
        """The same with a name."""
        other = self.copied()
        other.names[name] = c
        return other

    def with_given(self, name, c):
        """The same with a given of a let, or a want."""
        other = self.with_name(name, c)
        other.givens[name] = c
        return other

    def with_params(self, params, first):
        """The same with params, which are locals from a number on."""
        other = self
        for at, (name, _, by_name) in enumerate(params):
            c = ("local", first + at)
            other = other.with_name(name, ("now", c) if by_name else c)
        return other

    def with_givens(self, wants, first):
        """The same with wants, which are locals from a number on."""
        other = self
        for at, (name, _) in enumerate(wants):
            other = other.with_given(name, ("local", first + at))
        return other

    def with_slots(self, lowering, definition):
        """The same with the vparams of a class, as slots of this."""
        other = self
        if definition[0] == "class":
            for name, _ in definition[3]:
                other = other.with_name(name, ("slot", THIS, lowering.slot(name)))
        return other


class LowBody:
    """A body whose expression is lowered."""

    def __init__(self, lowering, params):
        self.lowering = lowering
        self.params = params
        self.total = params

    def whole(self, node, reach):
        """The body of a found tree."""
        c = self.c(node, reach)
        return (self.params, self.total - self.params, c)

    def local(self):
        """The number of a further local."""
        self.total += 1
        return self.total - 1

    def c(self, node, reach):
        """The c of a found tree."""
        work = LOWERS[node.tree[0][0]]
        return work(self, node, reach)

    def cs(self, nodes, reach):
        """The c's of found trees."""
        return tuple([self.c(node, reach) for node in nodes])

    def called(self, node, first, params, reach):
        """The c's of the args and givens of a call, whose args begin at a part."""
        e = node.tree[0]
        args = node.parts[first:first + len(params)]
        cs = [("late", self.c(arg, reach)) if param[2] else self.c(arg, reach)
              for arg, param in zip(args, params)]
        if e[-1] is not None:
            cs.extend(list(self.cs(node.parts[first + len(params):], reach)))
        else:
            cs.extend([self.evidence(one, reach) for one in node.tree[3][-1]])
        return tuple(cs)

    def evidence(self, told, reach):
        """The c of evidence."""
        label, _, inner = told
        if isinstance(label, tuple):
            return ("first", ("slot", THIS, self.lowering.slot(label[1])))
        if label in reach.givens:
            return reach.givens[label]
        if is_single(self.lowering.script.definition(label)):
            return ("single", self.lowering.singles[label])
        number = self.lowering.number(("body", (label,)))
        return ("direct", number, tuple([self.evidence(one, reach) for one in inner]))


def lower_own(body, node, reach):
    """An integer, a text, a truth or the unit."""
    return node.tree[0]


def lower_name(body, node, reach):
    """A name in reach, or an object."""
    name = node.tree[0][1]
    if name in reach.names:
        return reach.names[name]
    return ("single", body.lowering.singles[name])


def lower_this(body, node, reach):
    """This."""
    return THIS


def lower_val(body, node, reach):
    """A val, or a lazy or given that is worked once."""
    c = ("slot", body.c(node.parts[0], reach), body.lowering.slot(node.tree[0][2]))
    return c if node.form == "val" else ("first", c)


def lower_call(body, node, reach):
    """A call of a def of an object, or of an extension."""
    name = node.tree[0][2]
    more = node.tree[3]
    owner = more[1] if more[0] == "extend" else more[0]
    member = body.lowering.script.def_of(owner, name)
    on = body.c(node.parts[0], reach)
    cs = body.called(node, 1, member[3], reach)
    if more[0] == "extend":
        return ("direct", body.lowering.number(("body", (owner, name))), (on,) + cs)
    return ("send", on, call_selector(name), cs)


def lower_super(body, node, reach):
    """A super."""
    name = node.tree[0][1]
    member = body.lowering.script.def_of(node.tree[3][0], name)
    cs = body.called(node, 0, member[3], reach)
    return ("send", THIS, super_selector(reach.owner, name), cs)


def lower_new(body, node, reach):
    """A new."""
    names = tuple([part[0] for part in node.tree[0][1]])
    return ("make", body.lowering.made.index(names), body.cs(node.parts, reach))


def lower_fun(body, node, reach):
    """A fun."""
    numbers = []
    for name, _ in node.tree[0][1]:
        numbers.append(body.local())
        reach = reach.with_name(name, ("local", numbers[-1]))
    return ("fun", tuple(numbers), body.c(node.parts[0], reach))


def lower_apply(body, node, reach):
    """An apply."""
    return ("apply", body.c(node.parts[0], reach), body.cs(node.parts[1:], reach))


def lower_all(body, node, reach):
    """An if, a show or a then, which are c's of the same form."""
    return (node.tree[0][0],) + body.cs(node.parts, reach)


def lower_let(body, node, reach):
    """A let, a given of a let, or a lazy, which is worked once."""
    word, name = node.tree[0][:2]
    first = body.c(node.parts[0], reach)
    local = ("local", body.local())
    if word == "lazy":
        first = ("once", name, first)
        inner = reach.with_name(name, ("first", local))
    elif word == "given":
        inner = reach.with_given(name, local)
    else:
        inner = reach.with_name(name, local)
    return ("let", local[1], first, body.c(node.parts[1], inner))


def lower_match(body, node, reach):
    """A match: tests of the cases, one after the other."""
    matched = ("local", body.local())
    first = body.c(node.parts[0], reach)
    ways = []
    rest = ("stop", "unmatched", matched)
    for at, (pattern, _) in enumerate(node.tree[0][2]):
        test = test_of(body, matched, pattern)
        worth = bound_c(body, matched, pattern, (node.parts[1 + at], reach))
        if test is None:
            rest = worth
            break
        ways.append((test, worth))
    for test, worth in reversed(list(ways)):
        rest = ("if", test, worth, rest)
    return ("let", matched[1], first, rest)


def bound_c(body, matched, pattern, case):
    """The c of a case, the names of its pattern being let ahead of it."""
    node, reach = case
    lets = []
    for name, c in bound_paths(body, matched, pattern):
        if c != matched:
            lets.append((body.local(), c))
            c = ("local", lets[-1][0])
        reach = reach.with_name(name, c)
    told = body.c(node, reach)
    for number, c in reversed(list(lets)):
        told = ("let", number, c, told)
    return told


def lower_summon(body, node, reach):
    """A summon."""
    return body.evidence(node.tree[3], reach)


def lower_op(body, node, reach):
    """An op; and, or are ifs."""
    word = node.tree[0][1]
    one, other = body.cs(node.parts, reach)
    if word == "and":
        return ("if", one, other, ("truth", False))
    if word == "or":
        return ("if", one, ("truth", True), other)
    return ("op", word, one, other)


def lower_stop(body, node, reach):
    """A stop."""
    return ("stop", "stop", ("text", node.tree[0][1]))


LOWERS = {
    "int": lower_own, "text": lower_own, "truth": lower_own, "unit": lower_own,
    "name": lower_name, "this": lower_this, "val": lower_val, "call": lower_call,
    "super": lower_super, "new": lower_new, "fun": lower_fun, "apply": lower_apply,
    "if": lower_all, "show": lower_all, "then": lower_all, "let": lower_let, "lazy": lower_let,
    "given": lower_let, "match": lower_match, "summon": lower_summon, "op": lower_op,
    "stop": lower_stop,
}
