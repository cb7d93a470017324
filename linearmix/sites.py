"""Scopes of definitions, kinds outside of bodies, and bodies, each with its where."""

from linearmix.kindtools import changed
from linearmix.model import NAMELESS
from linearmix.scopes import Scope

# How a kind stands at its site: rightly, turned, both at once, or left aside.
RIGHTLY = "+"
TURNED = "-"
BOTH = "both"
ASIDE = ""

# What this is in kinds of vparams, where it is not in reach as it is not made yet.
UNMADE = "~unmade"


class Site:
    """A kind that stands outside of bodies, as it is written and with inner names."""

    def __init__(self, where, scope, kind, way):
        self.where = where
        self.scope = scope
        self.kind = kind
        self.inner = scope.inward(kind)
        self.way = way
        self.is_parent = False
        self.member = None


class Body:
    """An expression that is a body: its where, its scope, and the kind that is wanted.

    Of an arg of a parent the parent's kind is told, and the number of the arg.
    """

    def __init__(self, where, scope, e, wanted):
        self.where = where
        self.scope = scope
        self.e = e
        self.wanted = wanted
        self.parent = None
        self.number = 0


class Signature:
    """What a def takes and gives, with inner names; scope is that of its body."""

    def __init__(self, scope):
        self.scope = scope
        self.kparams = []
        self.params = []
        self.wants = []
        self.result = None
        self.sites = []


def main_scope(model):
    """The scope of main: objects alone."""
    return Scope(model, ())


def with_kparams(scope, kparams):
    """The scope with kind parameters of a definition."""
    for name, _, upper in kparams:
        scope = scope.with_upper(name, upper)
    return scope


def class_scope(model, name):
    """The scope of the members of a class."""
    scope = with_kparams(Scope(model, (name,)), model.classes[name].kparams)
    return scope.with_this(model.own_kind(name))


def parent_scope(model, name):
    """The scope of the args of a class's parents."""
    entry = model.classes[name]
    scope = with_kparams(Scope(model, (name,)), entry.kparams)
    scope = scope.with_phantom(UNMADE, model.own_kind(name))
    for vparam, kind in entry.vparams:
        scope = scope.with_name(vparam, "value", changed(kind, {}, {"this": (UNMADE,)}))
    return scope


def signature_of(scope, where, kparams, params, wants, result):
    """The signature of a def, or of a given, within a scope."""
    sites = []
    bare = scope.without_names()
    for name, _, upper in kparams:
        sites.append(Site(where, bare, upper, TURNED))
        bare = bare.with_upper(name, upper)
        scope = scope.with_upper(name, upper)
    signature = Signature(scope)
    for name, kind, by_name in params:
        sites.append(Site(where, scope, kind, TURNED))
        told = scope.inward(kind)
        scope = scope.with_name(name, "byname" if by_name else "value", told)
        signature.params.append((scope.reach[name], told, by_name))
    for name, kind in wants:
        sites.append(Site(where, scope, kind, TURNED))
        told = scope.inward(kind)
        scope = scope.with_name(name, "value", told)
        signature.wants.append((scope.reach[name], told))
    signature.kparams = [(name, upper) for name, _, upper in kparams]
    signature.sites = sites
    signature.scope = scope
    if result is not None:
        signature.result = scope.inward(result)
        sites.append(Site(where, scope, result, RIGHTLY))
    return signature


def def_signature(scope, where, member):
    """The signature of a def whose class, or extension, has a scope."""
    _, _, kparams, params, wants, result, _ = member
    signature = signature_of(scope, where, kparams, params, wants, result)
    own = [name for name, _ in wants]
    inner = signature.scope.with_wants(own).at_place(where)
    inner.wants = tuple([pair for pair in scope.wants if pair[0] not in own]) + inner.wants
    signature.scope = inner
    return signature


def class_def_signature(model, name, member):
    """The signature of a def of a class, with kinds as they stand there."""
    return def_signature(class_scope(model, name), (name, member[1]), member)


class ExtensionView:
    """An extension: its kparams, what it is called on, its wants, and the scope of its defs."""

    def __init__(self, model, definition):
        _, name, kparams, (x, kind), wants, members = definition
        self.name = name
        self.members = members
        outer = Scope(model, (name,))
        signature = signature_of(outer, (name,), kparams, ((x, kind, False),), wants, None)
        self.kparams = signature.kparams
        self.x = signature.params[0][0]
        self.kind = signature.params[0][1]
        self.wants = signature.wants
        self.sites = signature.sites
        self.scope = signature.scope.with_wants([want for want, _ in wants])


class GivenView:
    """A given of the program: its signature, and its kind, in which objects alone are in reach."""

    def __init__(self, model, definition):
        _, name, kparams, wants, kind, e = definition
        outer = Scope(model, (name,))
        signature = signature_of(outer, (name,), kparams, (), wants, None)
        self.name = name
        self.kparams = signature.kparams
        self.wants = signature.wants
        self.kind = kind
        self.e = e
        self.scope = signature.scope.with_wants([want for want, _ in wants])
        self.sites = signature.sites + [Site((name,), with_kparams(outer, kparams), kind, RIGHTLY)]


def kind_member_sites(scope, where, member):
    """The sites of the upper and the kind of a kind member."""
    sites = [Site(where, scope, member[2], RIGHTLY)]
    if member[3] is not None:
        sites.append(Site(where, scope, member[3], BOTH))
    for site in sites:
        site.member = member[1]
    return sites


def member_sites(model, name, member):
    """The sites of a member of a class."""
    where = (name, member[1])
    scope = class_scope(model, name)
    if member[0] == "kind":
        return kind_member_sites(scope, where, member)
    if member[0] == "def":
        return class_def_signature(model, name, member).sites
    return [Site(where, scope, member[2], RIGHTLY)]


def class_sites(model, name):
    """The sites of a class that are told at (class,), the parents' last."""
    entry = model.classes[name]
    where = (name,)
    scope = Scope(model, where)
    sites = []
    for kparam, _, upper in entry.kparams:
        sites.append(Site(where, scope, upper, ASIDE))
        scope = scope.with_upper(kparam, upper)
    own = scope.with_this(model.own_kind(name))
    sites.extend([Site(where, own, kind, RIGHTLY) for _, kind in entry.vparams])
    for parent, kinds, _ in entry.parents:
        site = Site(where, scope, ("of", parent, kinds), RIGHTLY)
        site.is_parent = True
        sites.append(site)
    return sites


def sites_of(model, definition):
    """The sites of a definition, in their sequence."""
    name = definition[1]
    if definition[0] == "given":
        return GivenView(model, definition).sites
    if definition[0] == "extend":
        view = ExtensionView(model, definition)
        sites = list(view.sites)
        for member in view.members:
            sites.extend(def_signature(view.scope, (name, member[1]), member).sites)
        return sites
    sites = class_sites(model, name)
    for member in model.classes[name].members:
        sites.extend(member_sites(model, name, member))
    return sites


def parent_bodies(model, name):
    """The args of a class's parents, as bodies."""
    bodies = []
    for parent, kinds, worths in model.classes[name].parents:
        for number, e in enumerate(worths):
            body = Body((name, len(bodies)), parent_scope(model, name), e, None)
            body.parent = ("of", parent, kinds)
            body.number = number
            bodies.append(body)
    return bodies


def member_body(model, name, member):
    """The body of a member of a class; None if it has none."""
    where = (name, member[1])
    if member[0] == "def" and member[6] is not None:
        signature = class_def_signature(model, name, member)
        return Body(where, signature.scope, member[6], signature.result)
    if member[0] in ("val", "lazy", "given") and member[3] is not None:
        return Body(where, class_scope(model, name).at_place(where), member[3], member[2])
    return None


def bodies_in(model, definition):
    """The bodies of a definition, in their sequence."""
    name = definition[1]
    if definition[0] == "given":
        view = GivenView(model, definition)
        return [Body((name,), view.scope, view.e, view.kind)]
    if definition[0] == "extend":
        view = ExtensionView(model, definition)
        signatures = [def_signature(view.scope, (name, member[1]), member)
                      for member in view.members]
        return [Body(signature.scope.place, signature.scope, member[6], signature.result)
                for member, signature in zip(view.members, signatures)]
    bodies = parent_bodies(model, name)
    for member in model.classes[name].members:
        body = member_body(model, name, member)
        if body is not None:
            bodies.append(body)
    return bodies


def all_bodies(model):
    """The bodies of a program, in their sequence, main last."""
    bodies = []
    for definition in model.definitions:
        bodies.extend(bodies_in(model, definition))
    return bodies + [Body((), main_scope(model), model.main, None)]


def nameless_scope(scope, model):
    """The scope of a class without a name, as which parts within a scope are looked at."""
    return scope.with_model(model).with_this(("of", NAMELESS, ()))
