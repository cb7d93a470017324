"""Shapes of kinds, and what matches miss, need and ask."""

from linearmix.arguing import classes_stand
from linearmix.atoms import is_integer
from linearmix.counting import need_count
from linearmix.deciding import Decider
from linearmix.errors import BadKind, BadPatterns, TooMany
from linearmix.faults import Fault
from linearmix.found import need_bare_kind
from linearmix.foundtree import all_found
from linearmix.insides import classes_in_pattern, names_in_pattern, patterns_in
from linearmix.judgetree import TreeCheck
from linearmix.missing import missing_shape
from linearmix.names_round import has_twice
from linearmix.patterns import pattern_names
from linearmix.scripts import let_by_script
from linearmix.shapekinds import SOME, TRUTHS, ShapeKinds, by_uppers
from linearmix.sites import main_scope
from linearmix.trees import is_form
from linearmix.useful import useless_ones

SHAPES_MOST = 300
LEVELS_MOST = 3
PATTERNS_MOST = 8
ALL_PATTERNS_MOST = 60


def shapes_of(program, kind, count):
    """The ascending shapes of a kind, opened so many levels deep."""
    script = let_by_script(program)
    need_bare_kind(kind)
    need_count(count, LEVELS_MOST)
    need_classes(script, kind)
    kinds = ShapeKinds(main_scope(script.model), script.makers)
    kind = by_uppers(kinds.scope, kind)
    if many_shapes(kinds, kind, count, {}) > SHAPES_MOST:
        raise TooMany("the kind has more shapes than are told")
    return sorted(opened_shapes(kinds, kind, count))


def need_classes(script, kind):
    """Raises BadKind, if the classes in a kind are not there, with as many arguments."""
    if not classes_stand(script.model, kind):
        raise BadKind("the kind is of no class, or of another number of arguments")


def many_shapes(kinds, kind, count, known):
    """How many shapes a kind has, opened so many levels deep; those that are known are kept."""
    if count == 0 or not kinds.is_closed(kind):
        return 1
    if kind == ("truth",):
        return len(TRUTHS)
    key = (repr(kind), count)
    if key not in known:
        many = 0
        for name in kinds.classes(kind):
            ways = 1
            for field in kinds.fields(kind, name):
                ways = ways * many_shapes(kinds, field, count - 1, known)
            many += ways
        known[key] = many
    return known[key]


def opened_shapes(kinds, kind, count):
    """The shapes of a kind, opened so many levels deep."""
    if count == 0 or not kinds.is_closed(kind):
        return [SOME]
    if kind == ("truth",):
        return list(TRUTHS)
    found = []
    for name in kinds.classes(kind):
        inner = [opened_shapes(kinds, field, count - 1) for field in kinds.fields(kind, name)]
        rows = [()]
        if any([not shapes for shapes in inner]):
            rows = []
        for shapes in inner:
            rows = [row + (shape,) for row in rows for shape in shapes]
        found.extend([("of", name, row) for row in rows])
    return found


def need_patterns_form(thing):
    """Raises BadPatterns, if an object is no tuple of so many patterns by form."""
    if not isinstance(thing, tuple) or len(thing) > PATTERNS_MOST:
        raise BadPatterns("the object is no tuple of patterns")
    if not all([is_form("pattern", pattern) for pattern in thing]):
        raise BadPatterns("an object is no pattern")
    if sum([len(patterns_in(pattern)) for pattern in thing]) > ALL_PATTERNS_MOST:
        raise BadPatterns("there are too many patterns")


def matched(program, kind, patterns):
    """The script of a program, and the kind that patterns, which are let for it, are held against."""
    script = let_by_script(program)
    need_bare_kind(kind)
    need_patterns_form(patterns)
    need_classes(script, kind)
    scope = main_scope(script.model)
    for pattern in patterns:
        if has_twice(names_in_pattern(pattern)):
            raise BadPatterns("a name stands twice")
        if not all([name in script.model.classes for name in classes_in_pattern(pattern)]):
            raise BadPatterns("a class of the pattern is none")
        try:
            pattern_names(scope, script.makers, kind, pattern, ())
        except Fault:
            raise BadPatterns("the pattern is not let for the kind") from None
    return script, by_uppers(scope, kind)


def missing(program, kind, patterns):
    """The least shape that none of the patterns take; None if they take all."""
    script, told = matched(program, kind, patterns)
    return missing_shape(main_scope(script.model), script.makers, told, patterns)


def needless(program, kind, patterns):
    """The ascending indexes of the patterns that take nothing that those ahead do not take."""
    script, told = matched(program, kind, patterns)
    return useless_ones(main_scope(script.model), script.makers, told, patterns)


def tree_of(program, kind, patterns):
    """A decision tree that leads each value to the first pattern that takes it, or to none."""
    script, told = matched(program, kind, patterns)
    return Decider(main_scope(script.model), script.makers, told, patterns).tree()


def tree_holds(program, kind, patterns, thing):
    """Whether any object is a decision tree that leads each value where it has to."""
    script, told = matched(program, kind, patterns)
    return TreeCheck(main_scope(script.model), script.makers, told, patterns).holds(thing)


def unsure(program):
    """The ascending (where, shape) of the matches of a program that miss one."""
    script = let_by_script(program)
    found = []
    for where in script.bodies:
        for node in all_found(script.bodies[where]):
            if node.tree[0][0] == "match":
                patterns = tuple([pattern for pattern, _ in node.tree[0][2]])
                shape = missing_shape(node.scope, script.makers, node.parts[0].kind, patterns)
                if shape is not None:
                    found.append((node.where, shape))
    return sorted(found, key=where_place)


def where_place(row):
    """What a row is sorted by that begins with a where: in it numbers go ahead of texts."""
    return tuple([(0, step, "") if is_integer(step) else (1, 0, step) for step in row[0]])
