"""Calls of defs, also by super, and of extensions: what they take, need and give (point 18)."""

from linearmix.bridge import Bridge
from linearmix.faults import Fault
from linearmix.foundtree import Found
from linearmix.holding import FREE, Choice, freed
from linearmix.kindtools import ANY, changed, table_of
from linearmix.lower import is_lower
from linearmix.parting import home_of
from linearmix.scopes import outward
from linearmix.searching import Candidate, winner
from linearmix.sites import ExtensionView, class_def_signature, def_signature
from linearmix.standing import look_at_kinds


class Callee:
    """What is called: its signature, and what stands for the names around it.

    early: how many of its wants its params may name; they are an extension's.
    """

    def __init__(self, head, bridge, signature):
        self.head = head
        self.bridge = bridge
        self.kparams = signature.kparams
        self.params = signature.params
        self.wants = signature.wants
        self.result = signature.result
        self.early = 0


class Calling:
    """A call at its tree: what is written there, and how what it holds is found."""

    def __init__(self, finder, scope, where, written, first):
        self.finder = finder
        self.scope = scope
        self.where = where
        self.kinds, self.worths, self.givens = written
        self.first = first

    def arg_where(self, at):
        """The where of the arg of a number."""
        return self.where + (self.first + at,)

    def arg(self, at, wanted):
        """The found arg of a number."""
        return self.finder.seek(self.worths[at], wanted, self.scope, self.arg_where(at))

    def given_where(self, at):
        """The where of the written given of a number."""
        return self.where + (self.first + len(self.worths) + at,)

    def given(self, at, wanted):
        """The found written given of a number."""
        return self.finder.seek(self.givens[at], wanted, self.scope, self.given_where(at))

    def need_numbers(self, callee):
        """Raises a fault, if there is another number of anything than is taken."""
        if self.kinds is not None and len(self.kinds) != len(callee.kparams):
            raise Fault("arguments", self.where)
        if len(self.worths) != len(callee.params):
            raise Fault("arguments", self.where)
        if self.givens is not None and len(self.givens) != len(callee.wants):
            raise Fault("arguments", self.where)

    def written_kinds(self, callee):
        """The kinds that are written, with inner names, looked at."""
        kinds = [self.scope.inward(kind) for kind in self.kinds]
        look_at_kinds(self.scope, kinds, self.where)
        self.need_uppers(callee, kinds)
        return tuple(kinds)

    def need_uppers(self, callee, kinds):
        """Raises a fault, if one of the kinds for what is called is not below its upper."""
        bridge = callee.bridge.copied()
        bridge.table.update(table_of(callee.kparams, kinds))
        for (_, upper), kind in zip(callee.kparams, kinds):
            if not is_lower(bridge.scope, kind, bridge.told(upper)):
                raise Fault("upper", self.where)

    def stand_early(self, callee, bridge):
        """Lets the wants stand that kinds of params may name."""
        for at in range(callee.early):
            inner, kind = callee.wants[at]
            path = None
            if self.givens is not None:
                path = self.finder.path_of(self.givens[at], self.scope, self.given_where(at))
            bridge.stand(inner, path, bridge.told(kind))

    def chosen_kinds(self, callee, wanted):
        """The kinds for kind parameters for which none are written (point 20)."""
        bridge = callee.bridge.copied()
        bridge.table.update(freed(callee.kparams, FREE))
        choice = Choice(bridge.scope, [(FREE + name, bridge.told(upper))
                                       for name, upper in callee.kparams])
        bridge.scope = choice.scope
        self.stand_early(callee, bridge)
        for at, (inner, kind, _) in enumerate(callee.params):
            self.hold(choice, bridge, (self.arg_where(at), self.arg(at, None)), (inner, kind))
        for at, want in enumerate(callee.wants):
            if self.givens is not None:
                self.hold(choice, bridge, (self.given_where(at), self.given(at, None)), want)
            else:
                # It notes nothing, but the result may name it.
                bridge.stand(want[0], None, bridge.told_or_none(want[1]) or ANY)
        if wanted is not None:
            result = bridge.told_or_none(callee.result)
            if result is not None:
                choice.note_result(result, wanted)
        word, told = choice.chosen()
        if word != "chosen":
            raise Fault(word, self.where)
        return told

    def hold(self, choice, bridge, placed, param):
        """Holds what is found at a where against the kind of a param or want, for which it stands then."""
        where, found = placed
        inner, kind = param
        wanted = bridge.told(kind)
        if not choice.holds(found.kind, wanted):
            raise Fault("kind", where)
        # The kind of the param may be open still, and what is found is below it.
        bridge.stand(inner, found.path, found.kind)

    def found(self, e, callee, ahead, wanted):
        """The found tree of the call; ahead is what stands in it ahead of the args."""
        self.need_numbers(callee)
        kinds = self.finder.kinds_for(self, callee, wanted)
        bridge = callee.bridge.copied()
        bridge.table.update(table_of(callee.kparams, kinds))
        self.stand_early(callee, bridge)
        parts = list(ahead)
        for at, (inner, kind, _) in enumerate(callee.params):
            param = bridge.told(kind)
            parts.append(self.arg(at, param))
            bridge.stand(inner, parts[-1].path, param)
        searches = []
        evidences = []
        for at, (inner, kind) in enumerate(callee.wants):
            want = bridge.told(kind)
            path = None
            if self.givens is None:
                evidences.append(self.finder.evidence(want, self.scope, self.where, at))
                searches.append((self.scope, want))
            else:
                parts.append(self.given(at, want))
                evidences.append(parts[-1].tree)
                path = parts[-1].path
            bridge.stand(inner, path, want)
        more = callee.head + (tuple([outward(kind) for kind in kinds]), tuple(evidences))
        found = Found(e, bridge.told(callee.result), parts, more)
        found.searches.extend(searches)
        return found


def find_call(finder, e, wanted, scope, where):
    """The found tree of a call of a def of what is called on, or of an extension."""
    _, on, name, kinds, worths, givens = e
    got = finder.seek(on, None, scope, where + (0,))
    home = home_of(scope, got.kind, name, ())
    if home is None:
        callee = extension_callee(finder, got, name, scope, where)
    else:
        owner, member = scope.model.first_with(home[1], name)
        if member[0] != "def":
            raise Fault("name", where)
        callee = def_callee(scope, where, home, owner, member, got.path)
    return Calling(finder, scope, where, (kinds, worths, givens), 1).found(e, callee, [got], wanted)


def find_super(finder, e, wanted, scope, where):
    """The found tree of a super."""
    _, name, kinds, worths, givens = e
    told = super_def(scope.model, scope.this[1], name)
    if told is None:
        raise Fault("name", where)
    callee = def_callee(scope, where, scope.this, told[0], told[1], ("this",))
    return Calling(finder, scope, where, (kinds, worths, givens), 0).found(e, callee, [], wanted)


def super_def(model, name, member):
    """The first class behind one in its own order that has a def, and that; None if none has."""
    for other in model.order(name)[1:]:
        told = model.classes[other].table.get(member)
        if told is not None and told[0] == "def":
            return (other, told)
    return None


def def_callee(scope, where, home, owner, member, path):
    """What is called, if it is a def of a class; home is the kind that it is seen from."""
    bridge = Bridge(scope, where)
    view = scope.model.seen(home, owner)
    bridge.table = table_of(scope.model.classes[owner].kparams, view[2])
    bridge.stand("this", path, home)
    return Callee((owner,), bridge, class_def_signature(scope.model, owner, member))


def extension_callee(finder, got, name, scope, where):
    """What is called, if it is a def of an extension: of those that fit the most special."""
    fits = []
    for definition in scope.model.definitions:
        if definition[0] == "extend" and name in [member[1] for member in definition[5]]:
            view = ExtensionView(scope.model, definition)
            kinds = chosen_by(scope, view, got.kind)
            if kinds is not None:
                fits.append((view, kinds))
    if not fits:
        raise Fault("name", where)
    at = winner(scope, [Candidate(view.name, view.kparams, [], view.kind, 0) for view, _ in fits])
    if at is None:
        raise Fault("ambiguous", where)
    view, kinds = fits[at]
    kinds = finder.extension_kinds(view, kinds, got, scope, where)
    return def_of_extension(view, kinds, name, Bridge(scope, where), got.path)


def chosen_by(scope, view, kind):
    """The kinds of an extension, chosen by the kind that it is called on; None if it does not fit."""
    table = freed(view.kparams, FREE)
    choice = Choice(scope, [(FREE + name, changed(upper, table, {})) for name, upper in view.kparams])
    if not choice.holds(kind, changed(view.kind, table, {})):
        return None
    word, kinds = choice.chosen()
    return kinds if word == "chosen" else None


def def_of_extension(view, kinds, name, bridge, path):
    """What is called, if it is a def of an extension with kinds."""
    member = [one for one in view.members if one[1] == name][0]
    signature = def_signature(view.scope, (view.name, name), member)
    bridge.table = table_of(view.kparams, kinds)
    bridge.stand(view.x, path, bridge.told(view.kind))
    callee = Callee(("extend", view.name, tuple([outward(kind) for kind in kinds])), bridge, signature)
    callee.wants = view.wants + signature.wants
    callee.early = len(view.wants)
    return callee
