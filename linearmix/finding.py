"""How the kind of an expression is found, with a wanted kind or without (point 18)."""

from linearmix.bridge import Bridge, visible
from linearmix.calling import find_call, find_super
from linearmix.evidence import outward_evidence
from linearmix.faults import Fault
from linearmix.foundtree import Found
from linearmix.kindtools import ANY, INT, NONE, PATH_MOST, TEXT, TRUTH, UNIT, table_of
from linearmix.lower import first_top, is_lower
from linearmix.model import form_of
from linearmix.parting import home_of, same_at_head, stripped
from linearmix.patterns import pattern_names
from linearmix.scopes import outward
from linearmix.searching import Searcher
from linearmix.sites import UNMADE
from linearmix.standing import look_at_kinds

# For each word of an op what is wanted of both, and what it is.
OPS = {
    "+": (("int",), ("int",)), "-": (("int",), ("int",)), "*": (("int",), ("int",)),
    "<": (("int",), ("truth",)), "=": (("any",), ("truth",)), "and": (("truth",), ("truth",)),
    "or": (("truth",), ("truth",)), "join": (("text",), ("text",)),
}

SEARCH_WORDS = {"none": "given", "ambiguous": "ambiguous", "endless": "endless"}

# What has the wanted kind itself.
PASSING = ("if", "let", "lazy", "given", "match", "then")


def written_kinds(e):
    """The kinds that a tree itself has written, but for calls and supers."""
    if e[0] in ("let", "lazy", "given"):
        return [] if e[2] is None else [e[2]]
    if e[0] == "fun":
        return [kind for _, kind in e[1]]
    if e[0] == "new":
        return [("of", name, kinds) for name, kinds, _ in e[1]]
    return [e[1]] if e[0] == "summon" else []


def find_own(finder, e, wanted, scope, where):
    """A tree that is of its own kind."""
    kinds = {"int": INT, "text": TEXT, "truth": TRUTH, "unit": UNIT, "stop": NONE}
    return Found(e, kinds[e[0]], [], ())


def find_name(finder, e, wanted, scope, where):
    """A name, which is a path, if it is no lazy and not by name."""
    inner = scope.reach.get(e[1])
    if inner is None:
        found = Found(e, ("of", e[1], ()), [], ())
        found.path = (e[1],)
        return found
    binding = scope.bound[inner]
    found = Found(e, visible(scope, binding.kind, where), [], ())
    if binding.how == "value":
        found.path = (inner,)
    return found


def find_this(finder, e, wanted, scope, where):
    """This."""
    found = Found(e, scope.this, [], ())
    found.path = ("this",)
    return found


def find_val(finder, e, wanted, scope, where):
    """A val, a lazy, a given or a vparam of what is read from."""
    got = finder.seek(e[1], None, scope, where + (0,))
    home = home_of(scope, got.kind, e[2], ())
    if home is None:
        raise Fault("name", where)
    owner, member = scope.model.first_with(home[1], e[2])
    form = form_of(member)
    if form not in ("val", "lazy", "given"):
        raise Fault("name", where)
    bridge = Bridge(scope, where)
    view = scope.model.seen(home, owner)
    bridge.table = table_of(scope.model.classes[owner].kparams, view[2])
    bridge.stand("this", got.path, home)
    found = Found(e, bridge.told(member[2]), [got], ())
    found.form = form
    if got.path is not None and form == "val" and len(got.path) < PATH_MOST:
        found.path = got.path + (e[2],)
    return found


def find_new(finder, e, wanted, scope, where):
    """A new of one part, or of more."""
    kinds = [scope.inward(("of", name, inner)) for name, inner, _ in e[1]]
    parts = [finder.seek(worth, vparam_kind(kinds[0], at, None, scope, where), scope, where + (at,))
             for at, worth in enumerate(e[1][0][2])]
    kind = kinds[0] if len(kinds) == 1 else ("with", tuple(kinds))
    return Found(e, kind, parts, tuple([outward(one) for one in kinds]))


def vparam_kind(kind, at, path, scope, where):
    """The kind of a vparam of the class of a kind, a path put for this, if that is not None."""
    bridge = Bridge(scope, where)
    entry = scope.model.classes[kind[1]]
    bridge.table = table_of(entry.kparams, kind[2])
    bridge.stand("this", path, kind)
    return bridge.told(entry.vparams[at][1])


def find_fun(finder, e, wanted, scope, where):
    """A fun, of which the result is that of a wanted fun of as many kinds, or is found."""
    kinds = tuple([scope.inward(kind) for _, kind in e[1]])
    inner = scope
    for (name, _), kind in zip(e[1], kinds):
        inner = inner.with_name(name, "value", kind)
    head = ANY if wanted is None else same_at_head(scope, wanted)
    result = head[2] if head[0] == "fun" and len(head[1]) == len(kinds) else None
    got = finder.seek(e[2], finder.entering(result, inner, where), inner, where + (0,))
    if result is None:
        result = leaving(got.kind, inner, scope, where)
    return Found(e, ("fun", kinds, result), [got], ())


def find_apply(finder, e, wanted, scope, where):
    """An apply of a fun."""
    got = finder.seek(e[1], None, scope, where + (0,))
    kind = stripped(scope, got.kind)
    if kind[0] != "fun":
        raise Fault("name", where)
    if len(kind[1]) != len(e[2]):
        raise Fault("arguments", where)
    kind = visible(scope, kind, where)
    parts = [finder.seek(worth, kind[1][at], scope, where + (1 + at,))
             for at, worth in enumerate(e[2])]
    return Found(e, kind[2], [got] + parts, ())


def find_if(finder, e, wanted, scope, where):
    """An if."""
    first = finder.seek(e[1], TRUTH, scope, where + (0,))
    ways = [finder.seek(e[2 + at], wanted, scope, where + (1 + at,)) for at in range(2)]
    kind = kind_of_all([way.kind for way in ways], wanted, scope, where)
    return Found(e, kind, [first] + ways, ())


def kind_of_all(kinds, wanted, scope, where):
    """The wanted kind, or the one of kinds that all are below."""
    kind = first_top(scope, kinds) if wanted is None else wanted
    if kind is None:
        raise Fault("none found", where)
    return kind


def find_let(finder, e, wanted, scope, where):
    """A let, a lazy, or a given of a let."""
    own = None if e[2] is None else scope.inward(e[2])
    first = finder.seek(e[3], own, scope, where + (0,))
    how = "lazy" if e[0] == "lazy" else "value"
    inner = scope.with_name(e[1], how, first.kind if own is None else own)
    if e[0] == "given":
        inner = inner.with_let_given(e[1])
    rest = finder.seek(e[4], finder.entering(wanted, inner, where), inner, where + (1,))
    kind = leaving(rest.kind, inner, scope, where) if wanted is None else wanted
    return Found(e, kind, [first, rest], ())


def find_match(finder, e, wanted, scope, where):
    """A match."""
    parts = [finder.seek(e[1], None, scope, where + (0,))]
    kinds = []
    more = []
    for at, (pattern, worth) in enumerate(e[2]):
        names = pattern_names(scope, finder.makers, parts[0].kind, pattern, where)
        inner = scope
        for name, kind in names:
            inner = inner.with_name(name, "value", kind)
        aim = finder.entering(wanted, inner, where)
        parts.append(finder.seek(worth, aim, inner, where + (1 + at,)))
        if wanted is None:
            kinds.append(leaving(parts[-1].kind, inner, scope, where))
        more.append(tuple([(name, outward(kind)) for name, kind in names]))
    return Found(e, kind_of_all(kinds, wanted, scope, where), parts, tuple(more))


def find_summon(finder, e, wanted, scope, where):
    """A summon of the given for a kind."""
    kind = scope.inward(e[1])
    found = Found(e, kind, [], finder.evidence(kind, scope, where, None))
    found.searches.append((scope, kind))
    return found


def find_show(finder, e, wanted, scope, where):
    """A show."""
    return Found(e, UNIT, [finder.seek(e[1], None, scope, where + (0,))], ())


def find_then(finder, e, wanted, scope, where):
    """A then."""
    first = finder.seek(e[1], None, scope, where + (0,))
    second = finder.seek(e[2], wanted, scope, where + (1,))
    return Found(e, second.kind if wanted is None else wanted, [first, second], ())


def find_op(finder, e, wanted, scope, where):
    """An op."""
    operand, kind = OPS[e[1]]
    parts = [finder.seek(e[2 + at], operand, scope, where + (at,)) for at in range(2)]
    return Found(e, kind, parts, ())


def leaving(kind, inner, outer, where):
    """A kind that was found where something more is in reach, as it is told outside."""
    if not outer.hides(kind):
        return kind
    scope = outer.copied()
    scope.bound = inner.bound
    return visible(scope, kind, where)


def find_called(finder, e, wanted, scope, where):
    """A call."""
    return find_call(finder, e, wanted, scope, where)


def find_above(finder, e, wanted, scope, where):
    """A super."""
    return find_super(finder, e, wanted, scope, where)


FINDERS = {
    "int": find_own, "text": find_own, "truth": find_own, "unit": find_own, "stop": find_own,
    "name": find_name, "this": find_this, "val": find_val, "call": find_called,
    "super": find_above, "new": find_new, "fun": find_fun, "apply": find_apply, "if": find_if,
    "let": find_let, "lazy": find_let, "given": find_let, "match": find_match,
    "summon": find_summon, "show": find_show, "then": find_then, "op": find_op,
}


class Finder:
    """Finds the kinds of expressions; what was found at a tree for a wanted kind is kept."""

    def __init__(self, makers):
        self.makers = makers
        self.kept = {}

    def seek(self, e, wanted, scope, where):
        """The found tree of an expression, below a wanted kind if that is not None."""
        place = (where, repr(wanted))
        if place not in self.kept:
            self.kept[place] = self.seek_anew(e, wanted, scope, where)
        return self.kept[place]

    def seek_anew(self, e, wanted, scope, where):
        """The same, not yet found."""
        look_at_kinds(scope, [scope.inward(kind) for kind in written_kinds(e)], where)
        work = FINDERS[e[0]]
        found = work(self, e, wanted, scope, where)
        found.where = where
        found.scope = scope
        if wanted is not None and e[0] not in PASSING and not is_lower(scope, found.kind, wanted):
            raise Fault("kind", where)
        return found

    def path_of(self, e, scope, where):
        """The path that an expression is; None if it is none, or is not right."""
        try:
            return self.seek(e, None, scope, where).path
        except Fault:
            return None

    def entering(self, wanted, inner, where):
        """A wanted kind as it goes on to where something more is in reach."""
        return None if wanted is None else visible(inner, wanted, where)

    def kinds_for(self, calling, callee, wanted):
        """The kinds for the kind parameters of what is called: those written, or chosen."""
        if calling.kinds is not None:
            return calling.written_kinds(callee)
        return calling.chosen_kinds(callee, wanted) if callee.kparams else ()

    def extension_kinds(self, view, kinds, got, scope, where):
        """The kinds for the kind parameters of an extension: those chosen."""
        return kinds

    def evidence(self, kind, scope, where, at):
        """The evidence for a kind, or the fault that there is no one; at is a want's number."""
        word, told = Searcher(scope, None).outcome(kind)
        if word != "found":
            raise Fault(SEARCH_WORDS[word], where)
        return outward_evidence(told)

    def find_body(self, body):
        """The found tree of a body."""
        if body.parent is None:
            wanted = self.entering(body.wanted, body.scope, body.where)
        else:
            # The object that is being made is not in reach; its class alone is known.
            wanted = vparam_kind(body.parent, body.number, (UNMADE,), body.scope, body.where[:1])
        return self.seek(body.e, wanted, body.scope, body.where)
