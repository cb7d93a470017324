"""The rounds of point 12: what is wrong with definitions, with news, and with bodies."""

from linearmix.insides import walk
from linearmix.kindtools import all_kinds, changed
from linearmix.makers import Makers, news_in
from linearmix.model import NAMELESS
from linearmix.names_round import definition_faults, tree_faults
from linearmix.overrides import broken_names
from linearmix.parting import comes_again
from linearmix.signs import sign_breaches
from linearmix.sites import all_bodies, bodies_in, class_scope, nameless_scope, sites_of
from linearmix.standing import paths_stand, uppers_hold

WORDS = ("name", "class", "arguments", "above", "order", "override", "lacking", "super", "sign",
         "upper", "kind", "none found", "given", "ambiguous", "endless", "path", "leaves",
         "pattern", "round kind")

CLASSES = ("trait", "class", "object")

# What this is, of the place where it stands, in the kinds of the parts of a new.
OUTER = "~outer"


def place_in(definition, where):
    """Where something stands in a definition, so that it can be sorted by."""
    if len(where) == 1:
        return (0,)
    if isinstance(where[1], int):
        return (2,) + where[1:]
    members = definition[-1] if definition[0] in ("object", "extend") else definition[-2]
    return (3, [member[1] for member in members].index(where[1])) + where[2:]


def first_of(rows):
    """The (word, where) of the first of (place, where, word), of one place by the list of words."""
    if not rows:
        return None
    least = min([place for place, _, _ in rows])
    at_place = [(WORDS.index(word), where) for place, where, word in rows if place == least]
    rank, where = min(at_place)
    return (WORDS[rank], where)


def placed(definition, rows):
    """Rows of (where, word) with their places ahead."""
    return [(place_in(definition, where), where, word) for where, word in rows]


def as_main(rows):
    """The same for an expression that is no definition's."""
    return [(where, where, word) for where, word in rows]


def news_of(scope, e, where):
    """The news in an expression, as (where, scope of the class without a name)."""
    found = []
    for at, tree, reach in walk(scope, e, where):
        if tree[0] == "new":
            parents = []
            for name, kinds, _ in tree[1]:
                told = [changed(reach.inward(kind), {}, {"this": (OUTER,)}) for kind in kinds]
                parents.append((name, tuple(told), ()))
            inner = reach if reach.this is None else reach.with_phantom(OUTER, reach.this)
            found.append((at, nameless_scope(inner, reach.model.with_nameless(tuple(parents)))))
    return found


def path_faults(model, definition):
    """The (where, word) of paths of kinds outside of bodies."""
    wheres = []
    for site in sites_of(model, definition):
        if not paths_stand(site.scope, site.inner):
            wheres.append(site.where)
        elif site.member is not None and not names_those_ahead(model, site):
            wheres.append(site.where)
    return [(where, "path") for where in wheres]


def names_those_ahead(model, site):
    """Whether a kind of a kind member names parts of this alone, of members ahead or above."""
    name = site.where[0]
    own = [member[1] for member in model.classes[name].members]
    ahead = own[:own.index(site.member)] + model.member_names(model.order(name)[1:])
    return all([one[1] == ("this",) and one[2] in ahead
                for one in all_kinds(site.kind) if one[0] == "part"])


def round_name(scope):
    """The first name of the class of this that has a round kind; None if none has."""
    name = scope.this[1]
    for member in scope.model.member_names(scope.model.order(name)):
        form = scope.model.first_with(name, member)[1][0]
        if form == "kind" and comes_again(scope, ("part", ("this",), member), ()):
            return member
        if form in ("val", "vparam") and val_comes_again(scope, name, member):
            return member
    return None


def val_comes_again(scope, name, member):
    """Whether in the kind of a val a part comes again within what it is."""
    owner, told = scope.model.first_with(name, member)
    view = scope.model.seen(scope.model.own_kind(name), owner)
    table = {kparam[0]: kind for kparam, kind in zip(scope.model.classes[owner].kparams, view[2])}
    return comes_again(scope, changed(told[2], table, {}), ())


def new_rounds(scope, e, where):
    """The (where, word) of news that have a round kind."""
    return [(at, "round kind") for at, inner in news_of(scope, e, where)
            if round_name(inner) is not None]


def round_rows(model, definition):
    """The rows of round kinds of a definition."""
    rows = []
    if definition[0] in CLASSES:
        member = round_name(class_scope(model, definition[1]))
        if member is not None:
            rows.append(((1,), (definition[1], member), "round kind"))
    for body in bodies_in(model, definition):
        rows.extend(placed(definition, new_rounds(body.scope, body.e, body.where)))
    return rows


def new_faults(scope, e, where):
    """The (where, word) of news that override wrongly, or have names without a body."""
    rows = []
    for at, inner in news_of(scope, e, where):
        if broken_names(inner, ("of", NAMELESS, ())):
            rows.append((at, "override"))
        if new_lacks(inner.model):
            rows.append((at, "lacking"))
    return rows


def new_lacks(model):
    """Whether a new has a name without a body, by itself or in a first part that is below a sealed class."""
    first = model.classes[NAMELESS].parents[0][0]
    if model.is_below_sealed(first) and model.missing_names(model.order(first)):
        return True
    return model.missing_names(model.order(NAMELESS)) != []


def maker_orders(model, makers):
    """The orders of all that can be made, of objects, and of the parts of news."""
    return [model.order(name) for name, entry in model.classes.items()
            if name in makers.names or entry.word == "object"] + makers.orders


def super_misses(model, orders, name, member):
    """Whether a super in a class finds no body for one of some orders."""
    return any([model.first_body(order[order.index(name) + 1:], member) is None
                for order in orders if name in order])


def super_faults(scope, e, where, orders):
    """The (where, word) of supers that find no body for some order."""
    return [(at, "super") for at, tree, reach in walk(scope, e, where)
            if tree[0] == "super" and super_misses(scope.model, orders, reach.this[1], tree[1])]


def class_faults(model, definition, sites):
    """The rows of a class itself in the round of what overrides: lacking, override, sign."""
    name = definition[1]
    rows = []
    if definition[0] == "object" and model.missing_names(model.order(name)):
        rows.append(((0,), (name,), "lacking"))
    for at, member in enumerate(broken_names(class_scope(model, name), model.own_kind(name))):
        rows.append(((1, at), (name, member), "override"))
    breaches = sign_breaches(model, model.classes[name], sites)
    return rows + placed(definition, [(where, "sign") for where in breaches])


def override_rows(model, definition, orders):
    """The rows of a definition in the round of what overrides."""
    sites = sites_of(model, definition)
    rows = class_faults(model, definition, sites) if definition[0] in CLASSES else []
    uppers = [(site.where, "upper") for site in sites if not uppers_hold(site.scope, site.inner)]
    rows.extend(placed(definition, uppers))
    for body in bodies_in(model, definition):
        rows.extend(placed(definition, new_faults(body.scope, body.e, body.where)))
        rows.extend(placed(definition, super_faults(body.scope, body.e, body.where, orders)))
    return rows


def first_in_round(model, number, orders):
    """The first (word, where) of the definitions and main in a round that finds no kinds."""
    for definition in model.definitions:
        if number == 0:
            rows = placed(definition, definition_faults(model, definition))
        elif number == 1:
            rows = placed(definition, path_faults(model, definition))
        elif number == 2:
            rows = round_rows(model, definition)
        else:
            rows = override_rows(model, definition, orders)
        told = first_of(rows)
        if told is not None:
            return told
    main = all_bodies(model)[-1]
    return first_of(as_main(expression_rows(main.scope, main.e, number, orders)))


def expression_rows(scope, e, number, orders):
    """The (where, word) of an expression in a round that finds no kinds."""
    if number == 0:
        return tree_faults(scope, e, ())
    if number == 2:
        return new_rounds(scope, e, ())
    if number == 3:
        return new_faults(scope, e, ()) + super_faults(scope, e, (), orders)
    return []


def first_fault(model):
    """The first (word, where) of a model in the rounds ahead of the bodies; None if there is none."""
    orders = []
    for number in range(4):
        if number == 3:
            orders = maker_orders(model, Makers(model, []))
        told = first_in_round(model, number, orders)
        if told is not None:
            return told
    return None


def fault_in_expression(scope, e):
    """The first (word, where) of an expression in the rounds ahead of its own; None if none."""
    orders = []
    for number in range(4):
        if number == 3:
            orders = maker_orders(scope.model, Makers(scope.model, news_in("tree", e)))
        rows = expression_rows(scope, e, number, orders)
        if number == 3:
            rows = rows + bodiless_news(scope, e)
        told = first_of(as_main(rows))
        if told is not None:
            return told
    return None


def bodiless_news(scope, e):
    """The (where, word) of news in an expression that give some super of the program no body."""
    rows = []
    supers = [(reach.this[1], tree[1]) for body in all_bodies(scope.model)
              for _, tree, reach in walk(body.scope, body.e, body.where) if tree[0] == "super"]
    for at, tree, _ in walk(scope, e, ()):
        if tree[0] == "new":
            order = scope.model.mixed_order([part[0] for part in tree[1]])
            if any([super_misses(scope.model, [order], name, member) for name, member in supers]):
                rows.append((at, "super"))
    return rows
