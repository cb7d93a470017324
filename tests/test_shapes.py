"""Shapes, and what matches miss, need and ask: points 23 and 24."""

import itertools
import random
import unittest

from linearmix.checks import check
from linearmix.errors import BadCount, BadForm, BadKind, BadPatterns, NotLetBy, TooMany
from linearmix.found import kind_at
from linearmix.orders import order_of
from linearmix.shapes import missing, needless, shapes_of, tree_holds, tree_of, unsure
from test_kinds import LOST, NO_KINDS
from test_orders import NO_PROGRAMS
from worlds import (A, ANY, HERE, INT, LISTS, LISTS_PROGRAM, NONE, PARAM_A, TEXT, TRUTH, UNIT, a_def, a_kind, a_val,
                    cls, fun, given, kparam, let, mix, name, new, num, obj, of, op, parent, part, text, then, trait, val)

SOME = ("some",)
NO, YES = ("lit", ("truth", False)), ("lit", ("truth", True))
NO_COUNTS = (None, -1, 4, True, "1", (), [1])


def shape(class_name, *shapes):
    return ("of", class_name, shapes)


def pat(class_name, *patterns):
    return ("of", class_name, patterns)


def lit(worth):
    return ("lit", num(worth) if isinstance(worth, int) else text(worth))


def bind(x):
    return ("bind", x)


def is_a(class_name, x="x"):
    return ("is", x, class_name)


NIL = is_a("nil")
LIST = of("Seq")
# The document's list: the object nil, and the class Cons of an int and a list.
SEQS = ((trait("Seq", sealed=True), obj("nil", parents=(parent("Seq"),)),
         cls("Cons", vparams=(("h", INT), ("t", LIST)), parents=(parent("Seq"),))), ("unit",))

# Sealed ones within sealed ones, kind parameters, news with further traits, what is not sealed.
WIDE = (LISTS[:3] + (
    trait("Expr", kparams=PARAM_A, sealed=True),
    cls("Lit", vparams=(("n", INT),), parents=(parent("Expr", kinds=(INT,)),)),
    cls("Str", vparams=(("t", TEXT),), parents=(parent("Expr", kinds=(TEXT,)),)),
    cls("Same", kparams=PARAM_A, vparams=(("a", of("Expr", A)), ("b", of("Expr", A))), parents=(parent("Expr", kinds=(A,)),)),
    cls("Cond", kparams=PARAM_A, vparams=(("c", TRUTH), ("e", of("Expr", A))), parents=(parent("Expr", kinds=(A,)),)),
    trait("Sub", kparams=PARAM_A, parents=(parent("Expr", kinds=(A,)),), sealed=True),
    obj("leaf", parents=(parent("Sub", kinds=(INT,)),)),
    trait("Loud"), trait("Big", a_val("big", INT, num(1))), cls("Half", a_def("gone", INT), parents=(parent("Sub", kinds=(INT,)),)),
    cls("Base", vparams=(("p", INT), ("q", TRUTH))),
    cls("Low", vparams=(("r", INT),), parents=(parent("Base", name("r"), ("truth", True)), parent("Loud"))),
    cls("Open", vparams=(("e", of("Expr", INT)), ("u", ANY))),
    cls("Cell", a_kind("K", ANY, of("Seq1")), vparams=(("k", part("this", "K")),), parents=(parent("Seq2"),)),
    trait("Seq1", sealed=True), obj("one", parents=(parent("Seq1"),)), trait("Seq2", sealed=True),
), then(new("Lit", num(1), more=("Loud",)), new("Cons", num(1), name("nil"), kinds=(INT,), more=("Loud", "Big")), ("unit",)))
EXPR = of("Expr", INT)


class ShapesTest(unittest.TestCase):
    def test_the_documents_list(self):
        self.assertEqual(shapes_of(SEQS, LIST, 0), [SOME])
        self.assertEqual(shapes_of(SEQS, LIST, 1), [shape("Cons", SOME, SOME), shape("nil")])
        self.assertEqual(shapes_of(SEQS, LIST, 2), [shape("Cons", SOME, shape("Cons", SOME, SOME)),
                                                    shape("Cons", SOME, shape("nil")), shape("nil")])
        self.assertEqual(len(shapes_of(SEQS, LIST, 3)), 4)

    def test_truths_and_kinds_that_are_not_sealed(self):
        self.assertEqual(shapes_of(SEQS, TRUTH, 0), [SOME])
        for count in (1, 2, 3):
            self.assertEqual(shapes_of(SEQS, TRUTH, count), [NO, YES])
            for kind in (INT, TEXT, UNIT, ANY, NONE, fun(TRUTH), of("Base"), of("Open"), mix(of("Loud"), ANY), of("Big")):
                self.assertEqual(shapes_of(WIDE, kind, count), [SOME])

    def test_kind_parameters_and_sealed_within_sealed(self):
        both = [shape("Cond", SOME, SOME), shape("Same", SOME, SOME)]
        self.assertEqual(shapes_of(WIDE, EXPR, 1), [both[0], shape("Lit", SOME), both[1], shape("leaf")])
        self.assertEqual(shapes_of(WIDE, of("Expr", TEXT), 1), both + [shape("Str", SOME)])
        self.assertEqual(shapes_of(WIDE, of("Expr", TRUTH), 1), both)
        self.assertEqual(shapes_of(WIDE, of("Sub", INT), 1), [shape("leaf")])
        self.assertEqual(shapes_of(WIDE, of("Sub", TEXT), 1), [])
        self.assertEqual(shapes_of(WIDE, of("Lit"), 2), [shape("Lit", SOME)])
        self.assertEqual(shapes_of(WIDE, of("leaf"), 1), [shape("leaf")])
        # What a class's kinds have to be goes on into its vparams.
        self.assertEqual(shapes_of(WIDE, of("Cond", TEXT), 2), [
            shape("Cond", one, two) for one in (NO, YES) for two in both + [shape("Str", SOME)]])
        self.assertEqual(shapes_of(WIDE, of("List", TRUTH), 2)[0], shape("Cons", NO, shape("Cons", SOME, SOME)))

    def test_withs(self):
        for kind in (mix(EXPR, of("Loud")), mix(of("Loud"), EXPR), mix(ANY, mix(of("Loud"), EXPR))):
            self.assertEqual(shapes_of(WIDE, kind, 1), [shape("Lit", SOME)])
        self.assertEqual(shapes_of(WIDE, mix(EXPR, ANY), 1), shapes_of(WIDE, EXPR, 1))
        self.assertEqual(shapes_of(WIDE, mix(of("List", INT), of("Big"), of("Loud")), 1), [shape("Cons", SOME, SOME)])
        self.assertEqual(shapes_of(WIDE, mix(of("List", INT), of("Base")), 1), [])

    def test_a_part_of_this_is_what_it_is_there(self):
        self.assertEqual(shapes_of(WIDE, of("Seq2"), 2), [shape("Cell", shape("one"))])

    def test_more_than_three_hundred(self):
        world = (tuple(obj("o" + str(at), parents=(parent("S"),)) for at in range(6))
                 + (trait("S", sealed=True), cls("Three", vparams=tuple(("f" + str(at), of("S")) for at in range(3)), sealed=True),
                    cls("Four", vparams=tuple(("f" + str(at), of("S")) for at in range(4)), sealed=True)), ("unit",))
        self.assertEqual(len(shapes_of(world, of("Three"), 2)), 216)
        self.assertEqual(len(shapes_of(world, of("Four"), 1)), 1)
        for count in (2, 3):
            with self.assertRaises(TooMany):
                shapes_of(world, of("Four"), count)
        truths = (tuple(cls("C" + str(at), vparams=tuple(("f" + str(k), TRUTH) for k in range(6)), parents=(parent("S"),))
                        for at in range(5)) + (trait("S", sealed=True), obj("o", parents=(parent("S"),))), ("unit",))
        with self.assertRaises(TooMany):
            shapes_of(truths, of("S"), 2)
        self.assertEqual(len(shapes_of((truths[0][1:], truths[1]), of("S"), 2)), 257)

    def test_lists_are_new(self):
        shapes_of(SEQS, LIST, 1).clear()
        self.assertEqual(len(shapes_of(program=SEQS, kind=LIST, count=1)), 2)


class LackingTest(unittest.TestCase):
    def test_a_class_below_a_sealed_one_that_lacks_a_name(self):
        for sealed in (True, False):
            world = (trait("S", a_def("f", INT), sealed=sealed), cls("C", parents=(parent("S"),)),
                     trait("T", a_def("f", INT, num(1))), obj("o", parents=(parent("C"), parent("T"))))
            # No new has it, though a further trait brings the body; an object below it can be made.
            self.assertEqual(check((world, then(num(1), new("C", more=("T",))))), ("lacking", (1,)) if sealed else None)
            self.assertEqual(check((world, new("C"))), ("lacking", ()))
            self.assertIsNone(check((world, name("o"))))
            self.assertEqual(kind_at((world, UNIT), HERE, new("C", more=("T",)), None),
                             ("lacking", ()) if sealed else ("found", mix(of("C"), of("T"))))
            self.assertEqual(shapes_of((world, UNIT), of("S"), 1), [shape("o")] if sealed else [SOME])
        itself = (cls("C", a_def("f", INT), sealed=True), trait("T", a_def("f", INT, num(1))))
        self.assertEqual(check((itself, new("C", more=("T",)))), ("lacking", ()))


class MissingTest(unittest.TestCase):
    def misses(self, told, kind, *patterns, world=WIDE):
        self.assertEqual(missing(world, kind, patterns), told)

    def test_the_documents_list(self):
        cons = pat("Cons", ANY, ANY)
        self.misses(shape("nil"), LIST, world=SEQS)
        self.misses(shape("nil"), LIST, cons, world=SEQS)
        # As tuples compare an of goes ahead of some.
        self.misses(shape("Cons", SOME, shape("nil")), LIST, NIL, world=SEQS)
        self.misses(None, LIST, NIL, cons, world=SEQS)
        self.misses(None, LIST, bind("l"), world=SEQS)
        self.misses(None, LIST, is_a("Seq"), world=SEQS)
        self.misses(shape("Cons", SOME, shape("nil")), LIST, NIL, pat("Cons", lit(1), ANY), world=SEQS)
        self.misses(shape("Cons", SOME, shape("nil")), LIST, NIL, pat("Cons", ANY, pat("Cons", ANY, ANY)), world=SEQS)
        self.misses(shape("Cons", SOME, shape("Cons", SOME, shape("nil"))), LIST, NIL, pat("Cons", ANY, NIL), world=SEQS)
        self.misses(shape("Cons", SOME, shape("Cons", SOME, shape("nil"))), LIST, NIL, pat("Cons", ANY, pat("nil")),
                    pat("Cons", lit(1), ANY), world=SEQS)

    def test_truths(self):
        self.misses(NO, TRUTH)
        self.misses(YES, TRUTH, NO)
        self.misses(NO, TRUTH, YES)
        self.misses(None, TRUTH, YES, NO)
        self.misses(shape("Cond", NO, shape("leaf")), of("Cond", INT), pat("Cond", YES, ANY))
        self.misses(shape("Cond", NO, shape("Lit", SOME)), of("Cond", INT), pat("Cond", YES, ANY), pat("Cond", ANY, is_a("leaf")))

    def test_kinds_that_are_not_sealed(self):
        for kind in (INT, TEXT, ANY, of("Base"), fun(INT)):
            self.misses(SOME, kind)
            self.misses(None, kind, ANY)
            self.misses(None, kind, bind("x"))
        self.misses(SOME, INT, lit(1), lit(2))
        self.misses(None, INT, lit(1), ANY)
        self.misses(SOME, ANY, NO, YES, lit(1), is_a("Base"))
        self.misses(None, of("Base"), is_a("Base"))
        self.misses(None, of("Low"), is_a("Loud"))
        self.misses(None, of("Low"), pat("Base", ANY, bind("b")))
        self.misses(SOME, of("Base"), is_a("Low"))
        self.misses(SOME, of("Base"), pat("Base", ANY, YES), pat("Base", ANY, NO))
        self.misses(None, of("Open"), pat("Open", is_a("Expr"), ANY))
        self.misses(SOME, of("Open"), pat("Open", is_a("Lit"), ANY))
        self.misses(SOME, mix(of("Loud"), ANY), is_a("Low"))
        self.misses(None, mix(of("Base"), of("Loud")), is_a("Loud"))

    def test_what_news_mix_in_is_not_looked_at(self):
        self.misses(shape("leaf"), EXPR, is_a("Loud"))
        self.misses(shape("Cons", SOME, shape("nil")), of("List", INT), is_a("Loud"), is_a("nil"))
        self.misses(shape("Lit", SOME), mix(EXPR, of("Loud")))
        self.misses(None, mix(EXPR, of("Loud")), pat("Lit", ANY))
        self.misses(shape("Lit", SOME), mix(EXPR, of("Loud")), pat("Lit", lit(1)), is_a("Loud"))

    def test_sealed_within(self):
        self.misses(shape("Lit", SOME), EXPR, is_a("Sub"))
        self.misses(shape("Cond", NO, shape("leaf")), EXPR, is_a("Sub"), is_a("Lit"))
        self.misses(shape("Same", shape("leaf"), shape("leaf")), EXPR, is_a("Sub"), is_a("Lit"), pat("Cond", ANY, ANY))
        self.misses(None, of("Sub", TEXT))

    def test_of_whole_programs(self):
        self.assertEqual(unsure(LISTS_PROGRAM), [])
        match = ("match", name("l"), ((is_a("nil", "n"), num(0)),))
        def reader(e, kind=of("List", A)):
            return a_def("f", INT, e, params=(("l", kind),), kparams=PARAM_A)
        told = shape("Cons", SOME, shape("nil"))
        world = (LISTS + (obj("zoo", reader(match)), cls("Top", vparams=(("v", INT),)),
                          cls("Eel", parents=(parent("Top", let("l", name("nil"), match, kind=of("List", INT))),)),
                          given("g", INT, let("l", name("nil"), then(num(1), match), kind=of("List", INT)))),
                 op("+", ("match", num(3), ((lit(3), num(1)),)), num(2)))
        self.assertEqual(unsure(world), [((0,), SOME), (("Eel", 0, 1), told), (("g", 1, 1), told), (("zoo", "f"), told)])
        # A kind parameter, and a part, by its upper.
        upper = a_def("f", INT, match, params=(("l", A),), kparams=(kparam("A", "", of("List", INT)),))
        self.assertEqual(unsure((LISTS + (obj("zoo", upper),), ("unit",))), [(("zoo", "f"), told)])
        cage = trait("Cage", a_kind("K", of("List", INT)), a_val("v", part("this", "K")))
        inner = a_def("f", INT, ("match", val(name("l"), "v"), ((is_a("nil", "n"), num(0)),)), params=(("l", of("Cage")),))
        self.assertEqual(unsure((LISTS + (cage, obj("zoo", inner)), ("unit",))), [(("zoo", "f"), told)])
        unsure(world).clear()
        self.assertEqual(len(unsure(program=world)), 4)


class NeedlessTest(unittest.TestCase):
    def needs(self, told, kind, *patterns, world=WIDE):
        self.assertEqual(needless(world, kind, patterns), told)

    def test_at_each_place(self):
        cons = pat("Cons", ANY, ANY)
        self.needs([], LIST, NIL, cons, world=SEQS)
        self.needs([2], LIST, NIL, cons, ANY, world=SEQS)
        self.needs([1, 2], LIST, ANY, NIL, cons, world=SEQS)
        self.needs([1], LIST, NIL, pat("nil"), cons, world=SEQS)
        self.needs([1], LIST, cons, pat("Cons", lit(1), NIL), NIL, world=SEQS)
        self.needs([2], LIST, pat("Cons", ANY, NIL), pat("Cons", ANY, pat("Cons", ANY, ANY)), cons, NIL, world=SEQS)
        self.needs([], LIST, world=SEQS)
        self.needs([2], TRUTH, YES, NO, ANY)
        self.needs([1], INT, lit(1), lit(1), lit(2), ANY)
        self.needs([2], INT, lit(1), ANY, lit(2))

    def test_news_and_further_traits(self):
        self.needs([], EXPR, pat("Lit", lit(1)), is_a("Loud"), ANY)
        self.needs([1], EXPR, is_a("Lit"), is_a("Loud"), ANY)
        self.needs([], EXPR, is_a("Loud"), is_a("Lit"), ANY)
        # All lists that are of Big are of Loud, too, as the one new of the program has it.
        self.needs([1], of("List", INT), is_a("Loud"), is_a("Big"), ANY)
        self.needs([], of("Loud"), is_a("Low"), is_a("Big"), ANY)
        self.needs([], ANY, is_a("Loud"), is_a("Big"), lit(1), lit("a"), YES, ANY)

    def test_of_kinds_that_are_not_sealed(self):
        # Both take all that there is, but missing says that they do not.
        self.needs([], of("Base"), pat("Base", ANY, YES), pat("Base", ANY, NO), ANY)
        self.needs([2], of("Base"), pat("Base", ANY, YES), pat("Base", ANY, NO), pat("Base", lit(1), YES), ANY)
        self.needs([1], of("Base"), is_a("Base"), is_a("Low"))
        self.needs([1], of("Low"), is_a("Loud"), pat("Base", ANY, ANY))
        self.needs([], of("Base"), is_a("Low"), is_a("Base"))
        self.needs([3], of("Low"), pat("Low", lit(1)), pat("Base", lit(1), ANY), pat("Low", lit(2)),
                   pat("Base", lit(1), YES), ANY)

    def test_each_kind_counts_as_having_a_value(self):
        self.needs([], of("Sub", TEXT), ANY)
        self.needs([1], of("Sub", TEXT), ANY, bind("x"))
        self.needs([], NONE, ANY)


class TreeTest(unittest.TestCase):
    def holds(self, thing, *patterns, kind=LIST, world=SEQS):
        self.assertIs(tree_holds(world, kind, patterns, thing), True, thing)

    def breaks(self, thing, *patterns, kind=LIST, world=SEQS):
        self.assertIs(tree_holds(world, kind, patterns, thing), False, thing)

    def test_trees_that_are_told(self):
        one = pat("Cons", lit(1), ANY)
        for world, kind, rows in (
                (SEQS, LIST, ((), (ANY,), (NIL,), (NIL, one), (one, NIL), (pat("Cons", ANY, one), pat("Cons", lit(2), NIL), ANY))),
                (SEQS, TRUTH, ((), (YES,), (YES, NO), (NO, ANY))), (SEQS, INT, ((), (lit(1), lit(2)), (lit(1), ANY))),
                (WIDE, EXPR, ((is_a("Loud"), is_a("Lit"), pat("Cond", YES, is_a("leaf")), is_a("Sub")),
                              (pat("Same", is_a("Lit"), pat("Cond", NO, pat("Lit", lit(3)))), is_a("Cond"), ANY))),
                (WIDE, of("Base"), ((pat("Low", lit(1)), pat("Base", lit(2), ANY), pat("Low", lit(3)), pat("Base", ANY, NO)),
                                    (pat("Base", lit(1), ANY), pat("Low", lit(2)), is_a("Loud"), pat("Base", lit(2), YES)))),
                (WIDE, ANY, ((lit(1), lit("a"), YES, is_a("Loud"), pat("Open", pat("Lit", lit(1)), lit(1)), pat("Low", lit(1))),)),
                (WIDE, mix(of("Big"), of("Loud")), ((is_a("Cons"), ANY), (is_a("Big"),)))):
            for patterns in rows:
                tree = tree_of(world, kind, patterns)
                self.holds(tree, *patterns, kind=kind, world=world)
                for spoilt in bent(tree, len(patterns)):
                    self.breaks(spoilt, *patterns, kind=kind, world=world)

    def test_shapes_of_trees(self):
        cons = pat("Cons", ANY, ANY)
        leaf, other = ("leaf", 0), ("leaf", 1)
        self.holds(leaf, ANY)
        self.holds(("none",))
        self.holds(("class", (), (("nil", leaf), ("Cons", other)), None), NIL, cons)
        self.holds(("class", (), (("nil", leaf),), other), NIL, cons)
        self.holds(("class", (), (("Cons", other), ("nil", leaf)), None), NIL, cons)
        # A pair that none comes to; a last tree that none comes to.
        self.holds(("class", (), (("Seq", ("class", (), (("nil", leaf),), other)), ("Cons", ("none",))), None), NIL, cons)
        self.holds(("class", (), (("nil", leaf), ("Cons", other)), ("none",)), NIL, cons)
        self.holds(("lit", (), ((num(1), leaf),), leaf), ANY)
        # None though there are others, a leaf in the place of another one, a class twice on one way.
        self.breaks(("class", (), (("nil", leaf),), None), NIL, cons)
        self.breaks(("class", (), (("nil", other),), leaf), NIL, cons)
        self.breaks(("class", (), (("nil", leaf),), ("class", (), (("nil", leaf),), other)), NIL, cons)
        self.breaks(("class", (), (("nil", leaf), ("nil", leaf)), other), NIL, cons)
        self.breaks(("class", (), (("nil", ("class", (), (("nil", leaf),), None)),), other), NIL, cons)

    def test_fields(self):
        one, leaf, none = pat("Cons", lit(1), ANY), ("leaf", 0), ("none",)
        inner = ("lit", (0,), ((num(1), leaf),), none)
        self.holds(("class", (), (("Cons", inner),), none), one)
        self.breaks(("class", (), (("nil", none),), inner), one)
        self.breaks(inner, one)
        self.breaks(("class", (), (("Cons", ("lit", (2,), ((num(1), leaf),), none)),), none), one)
        self.breaks(("class", (), (("Cons", ("lit", (1,), ((num(1), leaf),), none)),), none), one)
        # The class of a path is that of the last pair that the way went into.
        way = ("class", (), (("Cons", ("class", (), (("Seq", inner),), none)),), none)
        self.breaks(way, one)
        self.holds(("class", (), (("Seq", ("class", (), (("Cons", inner),), none)),), none), one)
        low = pat("Low", lit(1))
        def low_tree(name_1, name_2):
            return ("class", (), ((name_1, ("class", (), ((name_2, inner),), none)),), none)
        self.holds(low_tree("Base", "Low"), low, kind=of("Base"), world=WIDE)
        self.breaks(low_tree("Low", "Base"), low, kind=of("Base"), world=WIDE)
        # Literals of the tree alone are thought of, too.
        self.breaks(("class", (), (("Cons", ("lit", (0,), ((num(1), leaf), (num(7), leaf)), none)),), none), one)
        self.holds(("class", (), (("Cons", ("lit", (0,), ((num(1), leaf), (num(7), none)), none)),), none), one)

    def test_no_trees(self):
        leaf = ("leaf", 0)
        for thing in (None, 5, "leaf", (), [], {}, ("leaf",), ("leaf", True), ("leaf", 1), ("leaf", -1), ("leaf", 0, 0), ["leaf", 0],
                      ("none",), ("none", 0), ("leaf", "0"), ("lit", (), (), leaf), ("lit", (), ((num(1), leaf),)),
                      ("lit", [], ((num(1), leaf),), leaf), ("lit", (), [(num(1), leaf)], leaf), ("lit", (), ((1, leaf),), leaf),
                      ("lit", (), ((("int", True), leaf),), leaf), ("lit", (), ((num(1), leaf, leaf),), leaf),
                      ("lit", (), ([num(1), leaf],), leaf), ("lit", (0,), ((num(1), leaf),), leaf), ("lit", (), ((("unit",), leaf),), leaf),
                      ("class", (), (("Eel", leaf),), leaf), ("class", (), ((5, leaf),), leaf), ("class", (), ((["nil"], leaf),), leaf),
                      ("class", (True,), (("nil", leaf),), leaf), ("class", 0, (("nil", leaf),), leaf), ("else", (), (("nil", leaf),), leaf),
                      ("class", (), (("nil", leaf),), 5), ("class", (), (("nil", 5),), leaf)):
            self.breaks(thing, ANY)

    def test_at_most_sixty_within_one_another(self):
        pairs = [pat("Low", lit(at)) if at % 2 else pat("Base", lit(at), YES) for at in range(8)]
        tree = tree_of(WIDE, of("Base"), tuple(pairs))
        self.holds(tree, *pairs, kind=of("Base"), world=WIDE)
        self.assertLessEqual(depth(tree), 60)
        deep = ANY
        for _ in range(19):
            deep = pat("Cons", ANY, deep)
        tree = tree_of(SEQS, LIST, (deep,))
        self.holds(tree, deep)
        self.assertEqual(depth(tree), 19)


def depth(tree):
    """How many questions stand within one another."""
    if tree is None or tree[0] in ("leaf", "none"):
        return 0
    return 1 + max([depth(inner) for _, inner in tree[2]] + [depth(tree[3])])


def bent(tree, many):
    """Trees that are one with another leaf in it, or a question that is not right."""
    if tree[0] in ("leaf", "none"):
        yield ("leaf", many)
        yield ("leaf", tree[1] - 1 if tree[0] == "leaf" and tree[1] else 0) if tree != ("leaf", 0) else ("none",)
        return
    word, path, pairs, rest = tree
    yield (word, path + (0, 0, 0), pairs, rest)
    yield (word, path, pairs[:1] + pairs, rest) if word == "class" else (word, path, ((5, pairs[0][1]),) + pairs, rest)
    if rest is not None:
        yield (word, path, pairs, None)
        for inner in bent(rest, many):
            yield (word, path, pairs, inner)
    for at, (worth, inner) in enumerate(pairs):
        for other in bent(inner, many):
            yield (word, path, pairs[:at] + ((worth, other),) + pairs[at + 1:], rest)


class Brute:
    """Values and shapes of a small sealed world, told one by one."""

    def __init__(self, seed):
        self.r = random.Random(seed)
        kind = self.r.choice([of("S"), of("R"), INT])
        low = "R" if self.r.random() < .5 else "S"
        self.world = ((
            trait("S", sealed=True), trait("R", parents=(parent("S"),)), obj("c", parents=(parent("S"),)),
            cls("P", vparams=(("p", TRUTH), ("q", kind)), parents=(parent("S"),)), obj("d", parents=(parent("R"),)),
            cls("Q", vparams=(("n", INT),), parents=(parent(low),))), ("unit",))
        self.fields = {"P": [TRUTH, kind], "Q": [INT]}
        self.orders = {one[1]: order_of(self.world, one[1]) for one in self.world[0]}
        self.made = ["P", "Q", "c", "d"]

    def values(self, kind, deep):
        if kind == TRUTH:
            return [NO, YES]
        if kind == INT:
            return [lit(0), lit(1), "further"]
        found = []
        for one in self.made:
            if kind[1] in self.orders[one] and (deep or one not in self.fields):
                inner = [self.values(field, deep - 1) for field in self.fields.get(one, [])]
                found.extend(("of", one, row) for row in itertools.product(*inner))
        return found

    def shapes(self, kind, deep, is_top):
        found = [] if is_top and kind != INT else [SOME]
        if kind == TRUTH:
            found.extend([NO, YES])
        if kind[0] == "of" and deep:
            for one in self.made:
                if kind[1] in self.orders[one]:
                    inner = [self.shapes(field, deep - 1, False) for field in self.fields.get(one, [])]
                    found.extend(("of", one, row) for row in itertools.product(*inner))
        return found

    def has(self, told, value, kind):
        if told == SOME:
            return kind != INT or value == "further"
        if told[0] == "lit" or value[0] != "of":
            return told == value
        return told[1] == value[1] and all(self.has(one, two, field) for one, two, field in
                                           zip(told[2], value[2], self.fields.get(told[1], [])))

    def takes(self, pattern, value):
        if pattern[0] in ("any", "bind"):
            return True
        if pattern[0] == "lit" or value[0] != "of":
            return pattern == value
        name_asked = pattern[2] if pattern[0] == "is" else pattern[1]
        if name_asked not in self.orders[value[1]]:
            return False
        return pattern[0] == "is" or all(self.takes(one, two) for one, two in zip(pattern[2], value[2]))

    def pattern(self, kind, deep):
        if self.r.random() < .25 or not deep:
            return ANY
        if kind == TRUTH:
            return self.r.choice([NO, YES])
        if kind == INT:
            return lit(self.r.randint(0, 1))
        one = self.r.choice([one for one in self.orders if kind[1] in self.orders[one] or self.r.random() < .1] or ["S"])
        if self.r.random() < .4:
            return is_a(one, "x" + str(self.r.randint(0, 10 ** 9)))
        return ("of", one, tuple(self.pattern(field, deep - 1) for field in self.fields.get(one, [])))


def size(told):
    return 1 + sum(size(one) for one in told[2]) if told[0] == "of" else 1


class BruteTest(unittest.TestCase):
    def test_all_values_one_by_one(self):
        looked = 0
        for seed in range(500):
            brute = Brute(seed)
            kind = brute.r.choice([of("S"), of("R"), of("P"), TRUTH])
            patterns = tuple(brute.pattern(kind, 3) for _ in range(brute.r.randint(0, 5)))
            try:
                told = missing(brute.world, kind, patterns)
            except BadPatterns:
                continue
            looked += 1
            values = brute.values(kind, 3)
            untaken = [value for value in values if not any(brute.takes(one, value) for one in patterns)]
            shapes = [one for one in brute.shapes(kind, 3, True)
                      if all(value in untaken for value in values if brute.has(one, value, kind))
                      and any(brute.has(one, value, kind) for value in values)]
            self.assertEqual(told, min([(size(one), one) for one in shapes])[1] if shapes else None, (seed, patterns))
            firsts = [[at for at, one in enumerate(patterns) if brute.takes(one, value)][:1] for value in values]
            self.assertEqual(needless(brute.world, kind, patterns),
                             [at for at in range(len(patterns)) if [at] not in firsts], seed)
            tree = tree_of(brute.world, kind, patterns)
            self.assertIs(tree_holds(brute.world, kind, patterns, tree), True)
            for value, first in zip(values, firsts):
                self.assertEqual(self.led(brute, tree, value), first)
        self.assertGreater(looked, 250)

    def led(self, brute, tree, value):
        while tree[0] not in ("leaf", "none"):
            at = value
            for number in tree[1]:
                at = at[2][number]
            fits = [inner for worth, inner in tree[2]
                    if (at == ("lit", worth) if tree[0] == "lit" else at[0] == "of" and worth in brute.orders[at[1]])]
            tree = fits[0] if fits else tree[3]
        return list(tree[1:])


class ErrorsTest(unittest.TestCase):
    def works(self):
        return (missing, needless, tree_of, lambda program, kind, patterns: tree_holds(program, kind, patterns, None))

    def test_counts_and_kinds(self):
        for thing in NO_COUNTS:
            with self.assertRaises(BadCount):
                shapes_of(SEQS, LIST, thing)
            with self.assertRaises(BadCount):
                shapes_of(SEQS, of("Eel"), thing)
            with self.assertRaises(BadKind):
                shapes_of(SEQS, A, thing)
        for thing in NO_KINDS + (A, part("this", "K"), of("Cons", A), fun(INT, part("nil", "K"))):
            with self.assertRaises(BadKind):
                shapes_of(SEQS, thing, 1)
            for work in self.works():
                with self.assertRaises(BadKind):
                    work(SEQS, thing, 5)
        for thing in (of("Eel"), of("Cons", INT), fun(of("Eel"))):
            with self.assertRaises(BadKind):
                shapes_of(SEQS, thing, 1)
            for work in self.works():
                with self.assertRaises(BadKind):
                    work(SEQS, thing, ((("is", "x", "Eel")),))
                with self.assertRaises(BadPatterns):
                    work(SEQS, thing, 5)

    def test_patterns(self):
        for thing in (None, 5, [], [ANY], ANY, (ANY, 5), (["any"],), (("bind", "X"),), (ANY,) * 9, (("lit", ("unit",)),),
                      (("of", "Cons", [ANY, ANY]),), (("is", "x", "Eel"),), (("of", "Cons", (ANY,)),), (lit(1),), (is_a("S9"),),
                      (pat("Cons", bind("x"), bind("x")),), (ANY, pat("Cons", lit("a"), ANY)), (pat("nil", ANY),),
                      tuple(pat("Cons", pat("Cons", ANY, ANY), ANY) for _ in range(3)),
                      (pat("Cons", ANY, pat("Cons", ANY, ANY)),) * 8 + (ANY,)):
            for work in self.works():
                with self.assertRaises(BadPatterns):
                    work(SEQS, LIST, thing)
        deep = ANY
        for _ in range(19):
            deep = pat("Cons", ANY, deep)
        for work in self.works():
            work(SEQS, LIST, (deep, pat("Cons", ANY, pat("Cons", ANY, ANY)), pat("Cons", ANY, pat("Cons", ANY, ANY)),
                              pat("Cons", ANY, pat("Cons", ANY, ANY)), pat("Cons", ANY, ANY), ANY, ANY, NIL))
            with self.assertRaises(BadPatterns):
                work(SEQS, LIST, (deep, pat("Cons", ANY, pat("Cons", ANY, ANY)), pat("Cons", ANY, pat("Cons", ANY, ANY)),
                                  pat("Cons", ANY, pat("Cons", ANY, ANY)), pat("Cons", ANY, ANY), ANY, ANY, pat("nil"), NIL))
            with self.assertRaises(BadPatterns):
                work(SEQS, LIST, (deep, deep))
            with self.assertRaises(BadPatterns):
                work(SEQS, LIST, (pat("Cons", ANY, deep),))

    def test_programs_first(self):
        for work in self.works() + (shapes_of,):
            for thing in NO_PROGRAMS:
                with self.assertRaises(BadForm):
                    work(thing, 5, -1)
            with self.assertRaises(NotLetBy) as caught:
                work(LOST, 5, -1)
            self.assertEqual(caught.exception.what, ("name", ()))
        with self.assertRaises(NotLetBy):
            unsure(LOST)
        for thing in NO_PROGRAMS:
            with self.assertRaises(BadForm):
                unsure(thing)
        self.assertIs(tree_holds(program=SEQS, kind=LIST, patterns=(ANY,), thing=("leaf", 0)), True)
        self.assertEqual(needless(program=SEQS, kind=LIST, patterns=(ANY,)), [])
        self.assertIsNone(missing(program=SEQS, kind=LIST, patterns=(ANY,)))
        self.assertEqual(tree_of(program=SEQS, kind=LIST, patterns=(ANY,)), ("leaf", 0))


if __name__ == "__main__":
    unittest.main()
