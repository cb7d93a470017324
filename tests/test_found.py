"""Found kinds: points 17 to 19, and found trees that are right (20)."""

import unittest

from linearmix.errors import BadForm, BadKind, BadPatterns, BadPlace, NotLetBy
from linearmix.found import found, kind_at, names_of_pattern, tree_right
from test_kinds import LOST, NO_KINDS, NO_PLACES
from test_orders import NO_PROGRAMS, program
from worlds import (A, ALL_PROGRAMS, ANY, B, CAGES_PROGRAM, COD, FISH, FISHES, FISHES_PROGRAM, HERE, INT, LISTS,
                    LISTS_PROGRAM, NONE, ORDS_PROGRAM, PARAM_A, PATHS_PROGRAM, SHOWS_PROGRAM, TEXT, THIS, TRUTH, UNIT,
                    a_def, a_kind, a_val, above, call, cls, extend, fun, given, kparam, lazy, let, mix, name, new,
                    num, obj, of, op, own_given, parent, part, text, then, trait, val, var)

NO_TREES = (None, (), [], 5, "unit", ("name", "A"), ("int", True), ("int",), ("unit", ()), ["unit"], INT)
PIKE, NEMO = of("Pike"), of("nemo")

WORLD = program(
    *FISHES, *LISTS, trait("Out", kparams=(kparam("A", "+"),)), trait("In", kparams=(kparam("A", "-"),)),
    cls("Box", a_def("get", A, val(THIS, "v")), a_def("put", of("Box", B), new("Box", name("b"), kinds=(B,)),
                                                      params=(("b", B),), kparams=(kparam("B"),)),
        lazy("late", A, val(THIS, "v")), own_given("giv", A, val(THIS, "v")), kparams=PARAM_A, vparams=(("v", A),)),
    obj("tool",
        a_def("pick", A, name("x"), params=(("x", A), ("y", A)), kparams=PARAM_A),
        a_def("both", B, ("apply", name("f"), (name("x"),)), params=(("x", A), ("f", fun(A, B))),
              kparams=(kparam("A"), kparam("B"))),
        a_def("fishy", A, name("x"), params=(("x", A),), kparams=(kparam("A", "", FISH),)),
        a_def("nothing", of("Box", A), ("stop", ""), kparams=PARAM_A),
        a_def("unbox", A, val(name("x"), "v"), params=(("x", of("Box", A)),), kparams=PARAM_A),
        a_def("by", INT, name("n"), params=(("n", INT, True),))),
    trait("Mine", a_def("me", of("Mine"), THIS)))
PUSHED = program(
    trait("Base", a_def("put", UNIT, ("unit",), params=(("x", A), ("y", INT)), kparams=PARAM_A)),
    cls("Low", a_def("go", UNIT, ("unit",)), parents=(parent("Base"),)),
    extend("more", ("x", A), a_def("push", B, name("y"), params=(("y", B), ("z", INT)), kparams=(kparam("B"),),
                                   wants=(("w", INT),)), kparams=PARAM_A))
SHOP = ((), (("b", of("Box", INT)), ("f", FISH), ("c", COD), ("i", INT), ("g", fun(INT, TEXT)),
             ("m", mix(of("Loud"), PIKE)), ("l", of("List", INT))))


class KindTest(unittest.TestCase):
    """found: what kind an expression has; fault: what is told of one that has none."""

    def found(self, wanted, e, aim=None, place=SHOP, world=WORLD):
        self.assertEqual(kind_at(world, place, e, aim), ("found", wanted))

    def fault(self, word, where, e, aim=None, place=SHOP, world=WORLD):
        self.assertEqual(kind_at(world, place, e, aim), (word, where))


class ExpressionsTest(KindTest):
    def test_own_kinds(self):
        for e, kind in ((num(1), INT), (text("a"), TEXT), (("truth", True), TRUTH), (("unit",), UNIT),
                        (("stop", ""), NONE)):
            self.found(kind, e)
            self.found(kind, e, kind)
            self.found(kind, e, ANY)
        self.fault("kind", (), num(1), TEXT)
        self.found(NONE, ("stop", ""), TEXT)

    def test_names_and_this(self):
        self.found(FISH, name("f"))
        self.found(NEMO, name("nemo"))
        self.found(NEMO, name("nemo"), FISH)
        self.fault("kind", (), name("f"), COD)
        self.found(of("Box", A), THIS, place=(("Box", "get"), ()))
        self.found(of("tool"), THIS, place=(("tool", "by"), ()))
        self.found(INT, name("n"), place=(("tool", "by"), ()))
        self.found(A, name("x"), place=(("tool", "fishy"), ()))
        self.found(A, name("x"), FISH, place=(("tool", "fishy"), ()))
        self.fault("name", (), THIS)
        self.fault("name", (), THIS, place=(("Box",), ()))
        self.found(A, name("v"), place=(("Box",), ()))

    def test_vals(self):
        self.found(INT, val(name("b"), "v"))
        self.found(INT, val(name("b"), "late"))
        self.found(INT, val(name("b"), "giv"))
        self.found(INT, val(name("m"), "age"))
        self.found(INT, val(new("Box", num(1), kinds=(INT,)), "v"))
        self.fault("name", (), val(name("b"), "get"))
        self.fault("name", (), val(name("i"), "v"))
        self.fault("name", (), val(name("f"), "age"))

    def test_calls(self):
        self.found(INT, call(name("b"), "get"))
        self.found(TEXT, call(name("m"), "title"))
        self.found(TEXT, call(name("f"), "title", kinds=(), givens=()))
        self.fault("arguments", (), call(name("f"), "title", num(1)))
        self.fault("arguments", (), call(name("f"), "title", kinds=(INT,)))
        self.fault("arguments", (), call(name("f"), "title", givens=(num(1),)))
        self.fault("name", (), call(name("b"), "v"))
        self.found(of("Mine"), call(THIS, "me"), place=(("Mine", "me"), ()))
        # By name a param takes what is of its kind; args are told at their places.
        self.found(INT, call(name("tool"), "by", num(1)))
        self.fault("kind", (1,), call(name("tool"), "by", text("")))

    def test_this_through_parents(self):
        world = program(
            trait("Top", a_def("up", of("Box", A), ("stop", "")), a_val("v", A), kparams=PARAM_A),
            trait("Mid", kparams=(kparam("B"),), parents=(parent("Top", kinds=(B,)),)),
            cls("Box", kparams=PARAM_A),
            cls("Low", a_val("v", INT, num(1)), a_def("f", INT, num(1)), parents=(parent("Mid", kinds=(INT,)),)),
            cls("Gen", a_def("f", INT, num(1)), kparams=(kparam("C"),), parents=(parent("Mid", kinds=(var("C"),)),)))
        low, gen = (("Low", "f"), ()), (("Gen", "f"), ())
        self.found(of("Box", INT), call(THIS, "up"), world=world, place=low)
        self.found(INT, val(THIS, "v"), world=world, place=low)
        self.found(of("Box", var("C")), call(THIS, "up"), world=world, place=gen)
        self.found(of("Box", var("C")), above("up"), world=world, place=gen)
        self.found(var("C"), val(THIS, "v"), world=world, place=gen)
        self.found(of("Box", TEXT), call(name("t"), "up"), world=world, place=((), (("t", of("Mid", TEXT)),)))

    def test_kinds_that_are_chosen(self):
        tool = name("tool")
        self.found(FISH, call(tool, "pick", name("c"), name("f")))
        self.found(FISH, call(tool, "pick", name("f"), name("c")))
        self.fault("none found", (), call(tool, "pick", name("c"), num(1)))
        self.found(ANY, call(tool, "pick", name("c"), num(1), kinds=(ANY,)))
        self.found(TEXT, call(tool, "both", num(1), name("g")))
        self.found(TEXT, call(tool, "both", num(1), ("fun", (("n", INT),), text(""))))
        self.fault("none found", (), call(tool, "both", text(""), name("g")))
        self.found(COD, call(tool, "fishy", name("c")))
        self.fault("upper", (), call(tool, "fishy", num(1)))
        self.fault("upper", (), call(tool, "fishy", num(1), kinds=(INT,)))
        self.found(of("Box", NONE), call(tool, "nothing"))
        self.found(of("Box", INT), call(tool, "nothing"), of("Box", INT))
        self.fault("kind", (), call(tool, "nothing"), INT)
        # What is asked beside is told at the arg, behind all that is wrong in the args up to there.
        self.fault("kind", (1,), call(tool, "unbox", num(1)))
        self.fault("kind", (1, 1), then(num(1), call(tool, "unbox", num(1), givens=())))
        self.fault("kind", (1, 0), call(tool, "unbox", op("+", text(""), num(1))))
        self.fault("kind", (2,), call(num(1), "push", num(2), text("")), world=PUSHED, place=HERE)
        self.fault("kind", (3,), call(num(1), "push", num(2), num(3), givens=(text(""),)), world=PUSHED, place=HERE)
        self.fault("kind", (), call(num(1), "push", num(2), num(3), givens=(num(4),)), TEXT, HERE, PUSHED)
        self.fault("kind", (1,), above("put", num(1), text("")), place=(("Low", "go"), ()), world=PUSHED)
        self.fault("kind", (1,), call(tool, "unbox", num(1), kinds=(INT,)))
        self.found(INT, call(tool, "unbox", name("b")))
        self.found(of("Box", TEXT), call(name("b"), "put", text("")))
        # A def's own kind parameter is apart from that of a class that is put in.
        self.found(of("Box", B), call(name("y"), "put", name("x")), place=(
            ("tool", "both"), (("x", B), ("y", of("Box", A)))))
        # The args are found anew with what was chosen.
        self.found(COD, call(tool, "pick", name("c"), ("if", ("truth", True), name("c"), name("nemo"))))

    def test_news(self):
        self.found(of("Box", INT), new("Box", num(1), kinds=(INT,)))
        self.found(mix(COD, of("Loud"), of("Big")), new("Cod", more=("Loud", "Big")))
        self.fault("kind", (0,), new("Box", num(1), kinds=(TEXT,)))
        self.found(of("Box", FISH), new("Box", name("c"), kinds=(FISH,)))
        self.fault("arguments", (), new("Box", kinds=(TEXT,)))
        self.fault("above", (), new("Fish"))
        self.fault("lacking", (), new("Eel"), world=program(*FISHES, cls("Eel", parents=(parent("Fish"),))), place=HERE)

    def test_funs_and_apply(self):
        plus = ("fun", (("n", INT),), op("+", name("n"), num(1)))
        self.found(fun(INT, INT), plus)
        self.found(fun(INT, ANY), plus, fun(INT, ANY))
        self.found(fun(INT, INT), plus, ANY)
        self.found(fun(INT, ANY), plus, fun(NONE, ANY))
        self.fault("kind", (), plus, fun(TEXT, INT))
        self.fault("kind", (0,), plus, fun(INT, TEXT))
        self.fault("kind", (), plus, fun(INT))
        self.found(TEXT, ("apply", name("g"), (num(1),)))
        self.found(INT, ("apply", plus, (num(1),)))
        self.fault("kind", (1,), ("apply", name("g"), (text(""),)))
        self.fault("arguments", (), ("apply", name("g"), ()))
        self.fault("name", (), ("apply", name("b"), ()))
        self.found(fun(TEXT), ("fun", (), text("")))
        world = program(cls("C", a_kind("F", ANY, fun(INT, ANY)), a_kind("G", fun(INT, ANY))),
                        cls("D", a_kind("G", fun(INT, ANY), fun(INT, ANY)), parents=(parent("C"),)))
        place = ((), (("c", of("C")),))
        self.found(fun(INT, ANY), plus, part("c", "F"), world=world, place=place)
        self.fault("kind", (), plus, part("c", "G"), world=world, place=place)

    def test_apply_by_uppers(self):
        world = program(trait("T", a_kind("K", fun(INT, TEXT))), cls("C", a_def(
            "f", INT, num(1), params=(("x", A), ("t", of("T")), ("y", part("t", "K"))),
            kparams=(kparam("A", "", fun(TEXT)),))))
        place = (("C", "f"), ())
        self.found(TEXT, ("apply", name("x"), ()), world=world, place=place)
        self.found(TEXT, ("apply", name("y"), (num(1),)), world=world, place=place)

    def test_ifs(self):
        yes = ("truth", True)
        self.found(FISH, ("if", yes, name("c"), name("f")))
        self.found(COD, ("if", yes, name("nemo"), name("c")))
        self.fault("none found", (), ("if", yes, name("c"), num(1)))
        self.found(ANY, ("if", yes, name("c"), num(1)), ANY)
        self.found(FISH, ("if", yes, name("c"), name("c")), FISH)
        self.fault("kind", (2,), ("if", yes, name("c"), num(1)), FISH)
        self.fault("kind", (0,), ("if", num(1), num(1), num(1)))

    def test_lets_lazies_and_givens(self):
        self.found(COD, let("x", name("c"), name("x")))
        self.found(FISH, let("x", name("c"), name("x"), kind=FISH))
        self.fault("kind", (0,), let("x", name("f"), name("x"), kind=COD))
        self.found(ANY, let("x", name("c"), name("x")), ANY)
        self.fault("kind", (1,), let("x", name("c"), name("x")), INT)
        for word in ("lazy", "given"):
            self.found(FISH, (word, "x", FISH, name("c"), name("x")))
            self.fault("kind", (0,), (word, "x", COD, name("f"), name("x")))
            self.found(ANY, (word, "x", FISH, name("c"), name("x")), ANY)

    def test_show_then_op_stop_summon(self):
        self.found(UNIT, ("show", num(1)))
        self.found(TEXT, then(num(1), text("")))
        self.found(ANY, then(num(1), text("")), ANY)
        for word, one, kind in (("+", num(1), INT), ("-", num(1), INT), ("*", num(1), INT), ("<", num(1), TRUTH),
                                ("and", ("truth", True), TRUTH), ("or", ("truth", True), TRUTH),
                                ("join", text(""), TEXT)):
            self.found(kind, op(word, one, one))
            self.fault("kind", (0,), op(word, ("unit",), one))
            self.fault("kind", (1,), op(word, one, ("unit",)))
        self.found(TRUTH, op("=", num(1), text("")))
        self.found(INT, ("summon", INT), place=(("tool", "by"), ()), world=program(
            given("gi", INT, num(1)), obj("tool", a_def("by", INT, num(1)))))
        self.fault("given", (), ("summon", INT))

    def test_matches(self):
        one = (("of", "Cons", (("bind", "h"), ANY)), name("h"))
        self.found(INT, ("match", name("l"), (one, (ANY, num(0)))))
        self.found(ANY, ("match", name("l"), (one, (ANY, text("")))), ANY)
        self.fault("none found", (), ("match", name("l"), (one, (ANY, text("")))))
        self.fault("kind", (2,), ("match", name("l"), (one, (ANY, text("")))), INT)
        self.found(PIKE, ("match", name("f"), ((("is", "p", "Pike"), name("p")), (ANY, ("stop", "")))))
        self.fault("name", (), ("match", name("f"), ((("of", "Pike", (("bind", "a"),)), val(name("b"), "v")),
                                                     (("of", "Box", (("bind", "z"), ("bind", "z"))), num(1)))))

    def test_written_kinds_first(self):
        self.fault("path", (), let("x", text(""), op("+", text(""), num(1)), kind=part("i", "K")))
        self.fault("upper", (), ("summon", of("Cage", INT)), world=program(
            cls("Cage", kparams=(kparam("A", "", TEXT),))), place=HERE)
        self.fault("path", (), new("Box", text(""), kinds=(part("i", "K"),)))
        self.fault("path", (), ("fun", (("x", part("i", "K")),), op("+", text(""), num(1))))
        # Of a call behind its numbers, ahead of its args.
        self.fault("arguments", (), call(name("tool"), "pick", num(1), kinds=(part("i", "K"),)))
        self.fault("path", (), call(name("tool"), "pick", val(num(1), "x"), num(1), kinds=(part("i", "K"),)))

    def test_rounds_of_what_is_handed_in(self):
        self.fault("name", (1,), then(op("+", text(""), num(1)), name("lost")))
        self.fault("override", (1,), then(op("+", text(""), num(1)), new("Cod", more=("Odd",))), world=program(
            *FISHES, trait("Odd", a_def("title", INT, num(1)))), place=HERE)

    def test_a_new_that_gives_a_super_no_body(self):
        odd = trait("Odd", a_def("title", TEXT, above("title")), parents=(parent("Fish"),))
        world = program(*FISHES, odd, cls("Eel"))
        self.found(mix(COD, of("Odd")), new("Cod", more=("Odd",)), world=world, place=HERE)
        self.fault("super", (0,), then(new("Eel", more=("Odd",)), num(1)), world=world, place=HERE)


class DependentTest(KindTest):
    """Paths that are put for params, this and x, and kinds that leave."""

    def test_paths_put_in(self):
        place = ((), (("c", of("Cow")), ("a", of("Animal"))))
        keeper = name("keeper")
        def told(wanted, e, *more):
            self.found(wanted, e, *more, place=place, world=CAGES_PROGRAM)
        told(part("c", "Eats"), call(keeper, "best", name("c")))
        told(part("a", "Eats"), call(keeper, "best", name("a")))
        told(UNIT, call(keeper, "feed", name("c"), new("Hay")))
        told(UNIT, call(keeper, "feed", name("a"), val(name("a"), "best")))
        told(UNIT, call(keeper, "feed", name("lion"), val(name("lion"), "best")))
        told(of("Meat"), val(name("lion"), "best"))
        told(part("a", "Eats"), val(name("a"), "best"))
        told(of("Hay"), val(new("Cow"), "best"))
        self.fault("kind", (2,), call(keeper, "feed", name("c"), new("Meat")), place=place, world=CAGES_PROGRAM)
        self.fault("kind", (2,), call(keeper, "feed", name("a"), new("Hay")), place=place, world=CAGES_PROGRAM)

    def test_what_is_no_path(self):
        place = ((), (("a", of("Animal")), ("b", of("Animal"))))
        either = ("if", ("truth", True), name("a"), name("b"))
        keeper = name("keeper")
        def fault(where, e):
            self.fault("leaves", where, e, place=place, world=CAGES_PROGRAM)
        fault((), val(either, "best"))
        fault((), call(keeper, "best", either))
        fault((0,), then(call(keeper, "feed", either, ("stop", "")), num(1)))
        # Made plain ahead of it.
        self.found(of("Hay"), val(new("Cow"), "best"), place=place, world=CAGES_PROGRAM)
        self.found(UNIT, call(keeper, "both", either), place=place, world=CAGES_PROGRAM)

    def test_params_and_wants_in_kinds(self):
        cage, low = of("Cage"), of("IntCage")
        made, either = new("IntCage"), ("if", ("truth", True), name("c"), name("c"))
        world = program(
            trait("Cage", a_kind("K"), a_val("k", part("this", "K"))),
            cls("IntCage", a_kind("K", ANY, INT), a_val("k", INT, num(3)), parents=(parent("Cage"),)),
            obj("o", a_def("far", part("w", "K"), val(name("w"), "k"), wants=(("w", cage),)),
                a_def("near", part("w", "K"), val(name("w"), "k"), wants=(("w", low),)),
                a_def("gen", part("x", "K"), val(name("x"), "k"), params=(("x", A),), kparams=(kparam("A", "", cage),)),
                a_def("two", A, name("x"), params=(("x", A), ("z", part("x", "K"))), kparams=(kparam("A", "", cage),))),
            given("gi", low, made))
        place = ((), (("c", cage), ("i", low)))
        tool = name("o")
        def found_at(wanted, e):
            self.found(wanted, e, place=place, world=world)
        def leaves(e):
            self.fault("leaves", (), e, place=place, world=world)
        # Of a given that is found it leaves, of a written one that is a path it does not.
        leaves(call(tool, "far"))
        leaves(call(tool, "far", givens=(made,)))
        found_at(part("c", "K"), call(tool, "far", givens=(name("c"),)))
        found_at(INT, call(tool, "near"))
        found_at(part("i", "K"), call(tool, "near", givens=(name("i"),)))
        found_at(part("c", "K"), call(tool, "gen", name("c")))
        found_at(INT, call(tool, "gen", made))
        leaves(call(tool, "gen", either))
        found_at(cage, call(tool, "two", name("c"), val(name("c"), "k")))
        found_at(low, call(tool, "two", made, num(1)))
        leaves(call(tool, "two", either, num(1)))
        leaves(call(tool, "two", made, num(1), kinds=(cage,)))

    def test_leaving_lets_funs_and_matches(self):
        place = ((), (("a", of("Animal")),))
        def fault(where, e, aim=None):
            self.fault("leaves", where, e, aim, place=place, world=CAGES_PROGRAM)
        def told(wanted, e, aim=None):
            self.found(wanted, e, aim, place=place, world=CAGES_PROGRAM)
        best = val(name("x"), "best")
        fault((), let("x", name("a"), best))
        fault((1,), then(num(1), let("x", name("a"), best)))
        told(of("Hay"), let("x", new("Cow"), call(name("keeper"), "best", name("x"))))
        told(ANY, let("x", name("a"), best), ANY)
        told(of("Food"), let("x", name("a"), best), of("Food"))
        fault((), ("fun", (("x", of("Animal")),), best))
        told(fun(of("Cow"), of("Hay")), ("fun", (("x", of("Cow")),), best))
        told(fun(of("Animal"), of("Food")), ("fun", (("x", of("Animal")),), best), fun(of("Animal"), of("Food")))
        fault((), ("match", name("a"), ((("bind", "x"), best),)))
        told(of("Hay"), ("match", name("a"), ((("is", "x", "Cow"), best),)))
        fault((), ("given", "x", of("Animal"), name("a"), best))

    def test_names_that_are_hidden_further_in(self):
        place = ((), (("a", of("Animal")), ("b", part("a", "Eats")), ("c", of("Cow")), ("d", part("c", "Eats"))))
        def fault(where, e, aim=None):
            self.fault("leaves", where, e, aim, place=place, world=CAGES_PROGRAM)
        def told(wanted, e, aim=None):
            self.found(wanted, e, aim, place=place, world=CAGES_PROGRAM)
        told(part("a", "Eats"), name("b"))
        fault((1, 0), let("a", num(1), then(name("b"), num(2))))
        told(of("Hay"), let("c", num(1), name("d")))
        # A wanted kind is told at the tree that hides what it names.
        fault((), let("a", num(1), ("stop", "")), part("a", "Eats"))
        told(part("c", "Eats"), let("c", num(1), ("stop", "")), part("c", "Eats"))
        told(part("c", "Eats"), let("c", num(1), name("d")), part("c", "Eats"))
        fault((), ("match", num(1), ((("bind", "a"), ("stop", "")),)), part("a", "Eats"))
        fault((), ("fun", (("a", INT),), ("stop", "")), fun(INT, part("a", "Eats")))
        # A let's own kind is told where the let stands.
        told(INT, let("a", name("b"), num(1), kind=part("a", "Eats")))

    def test_longer_paths(self):
        place = ((), (("r", of("Rack")),))
        self.found(part("r", "cell", "Thing"), val(name("r"), "more"), place=place, world=PATHS_PROGRAM)
        self.found(part("rack", "inner", "cell", "Thing"), val(val(name("rack"), "inner"), "more"), place=HERE,
                   world=PATHS_PROGRAM)
        self.found(part("r", "cell", "Thing"), call(name("r"), "same", val(val(name("r"), "cell"), "thing")),
                   place=place, world=PATHS_PROGRAM)
        four = program(trait("T", a_kind("K")), cls("C", a_val("c", of("C"), THIS), a_val("t", part("this", "u", "K"),
                                                                                         ("stop", "")),
                                                    a_val("u", of("T"), ("stop", ""))))
        lets = ((), (("x", of("C")),))
        self.found(part("x", "c", "u", "K"), val(val(name("x"), "c"), "t"), place=lets, world=four)
        self.fault("path", (), val(val(val(name("x"), "c"), "c"), "t"), place=lets, world=four)

    def test_vparams_of_a_new_that_name_this(self):
        world = program(cls("C", a_kind("K", ANY, INT), vparams=(("v", part("this", "K")),)),
                        cls("D", a_kind("K"), vparams=(("v", part("this", "K")),)),
                        trait("T", a_kind("K", ANY, INT)), cls("E", parents=(parent("C", num(1)),)),
                        cls("F", a_kind("K", ANY, TEXT), parents=(parent("D", text("")),)))
        self.found(of("C"), new("C", num(1)), world=world, place=HERE)
        self.fault("kind", (0,), new("C", text("")), world=world, place=HERE)
        self.fault("leaves", (), new("D", num(1), more=("T",)), world=world, place=HERE)


class ExtensionsTest(KindTest):
    world = program(
        *FISHES, trait("Show", kparams=PARAM_A), cls("Box", kparams=PARAM_A, vparams=(("v", A),)),
        given("showInt", of("Show", INT), ("stop", "")),
        extend("fishes", ("x", FISH), a_def("kind1", TEXT, text("fish")), a_def("only", INT, num(1))),
        extend("cods", ("x", COD), a_def("kind1", INT, num(1))),
        extend("all1", ("x", A), a_def("kind1", TRUTH, ("truth", True)), a_def("me", A, name("x")),
               a_def("pair", of("Box", B), new("Box", name("y"), kinds=(B,)), params=(("y", B),),
                     kparams=(kparam("B"),)), kparams=PARAM_A),
        extend("shows", ("x", A), a_def("showy", TEXT, text("")), kparams=PARAM_A, wants=(("s", of("Show", A)),)),
        extend("boxes", ("x", of("Box", A)), a_def("out", A, val(name("x"), "v")), kparams=PARAM_A))
    place = ((), (("f", FISH), ("c", COD), ("b", of("Box", INT))))

    def told(self, wanted, e):
        self.assertEqual(kind_at(self.world, self.place, e, None), wanted)

    def test_the_most_special(self):
        self.told(("found", INT), call(name("c"), "kind1"))
        self.told(("found", TEXT), call(name("f"), "kind1"))
        self.told(("found", TRUTH), call(num(1), "kind1"))
        self.told(("found", INT), call(name("c"), "only"))
        self.told(("name", ()), call(num(1), "only"))
        self.told(("name", ()), call(num(1), "out"))

    def test_kinds_and_wants(self):
        self.told(("found", INT), call(name("b"), "out"))
        self.told(("found", COD), call(name("c"), "me"))
        self.told(("found", of("Box", TEXT)), call(name("c"), "pair", text("")))
        self.told(("found", of("Box", ANY)), call(name("c"), "pair", text(""), kinds=(ANY,)))
        self.told(("arguments", ()), call(name("c"), "pair", text(""), kinds=(COD, ANY)))
        self.told(("found", TEXT), call(num(1), "showy"))
        self.told(("given", ()), call(text(""), "showy"))
        self.told(("found", TEXT), call(text(""), "showy", givens=(("stop", ""),)))
        self.told(("arguments", ()), call(text(""), "showy", givens=()))
        # A member goes ahead of an extension.
        self.told(("found", TEXT), call(name("c"), "title"))

    def test_what_is_told_beside(self):
        trees = found((self.world[0], then(call(num(1), "showy"), call(num(1), "pair", text("")))))
        where, tree = trees[-1]
        self.assertEqual(where, ())
        one, two = tree[2]
        self.assertEqual(one[3], ("extend", "shows", (INT,), (), (("showInt", (), ()),)))
        self.assertEqual(two[3], ("extend", "all1", (INT,), (TEXT,), ()))

    def test_the_x_put_for_what_it_is_called_on(self):
        world = program(trait("Cage", a_kind("K"), a_val("k", part("this", "K"))),
                        extend("ex", ("x", of("Cage")), a_def("back", part("x", "K"), val(name("x"), "k")),
                               a_def("same", INT, num(1), params=(("y", part("x", "K")),))))
        place = ((), (("a", of("Cage")), ("b", of("Cage"))))
        either = ("if", ("truth", True), name("a"), name("b"))
        self.assertEqual(kind_at(world, place, call(name("a"), "back"), None), ("found", part("a", "K")))
        self.assertEqual(kind_at(world, place, call(either, "back"), None), ("leaves", ()))
        self.assertEqual(kind_at(world, place, call(name("a"), "same", val(name("a"), "k")), None), ("found", INT))
        self.assertEqual(kind_at(world, place, call(name("a"), "same", val(name("b"), "k")), None), ("kind", (1,)))


class PatternsTest(unittest.TestCase):
    def names(self, kind, pattern, *wanted, world=WORLD):
        self.assertEqual(names_of_pattern(world, kind, pattern), wanted)

    def bad(self, kind, pattern, world=WORLD):
        with self.assertRaises(BadPatterns):
            names_of_pattern(world, kind, pattern)

    def test_plain_ones(self):
        self.names(INT, ANY)
        self.names(INT, ("bind", "x"), ("x", INT))
        self.names(INT, ("lit", num(1)))
        self.names(ANY, ("lit", num(1)))
        self.names(mix(ANY, INT), ("lit", num(1)))
        self.bad(INT, ("lit", text("")))
        self.bad(NONE, ("lit", num(1)))
        self.bad(FISH, ("lit", num(1)))

    def test_what_is_matched_seen(self):
        self.names(COD, ("is", "x", "Fish"), ("x", FISH))
        self.names(of("Cons", INT), ("is", "x", "List"), ("x", of("List", INT)))
        self.names(mix(of("Loud"), PIKE), ("is", "x", "Cod"), ("x", COD))
        self.names(mix(of("Loud"), PIKE), ("of", "Pike", (("bind", "a"),)), ("a", INT))
        self.names(NEMO, ("is", "x", "nemo"), ("x", NEMO))

    def test_kinds_that_are_chosen(self):
        self.names(FISH, ("is", "x", "Pike"), ("x", PIKE))
        self.names(of("List", INT), ("is", "x", "Cons"), ("x", of("Cons", INT)))
        self.names(of("List", INT), ("of", "Cons", (("bind", "h"), ("bind", "t"))), ("h", INT), ("t", of("List", INT)))
        self.names(of("List", INT), ("is", "x", "nil"), ("x", of("nil")))
        # With "+" the upper where nothing is noted.
        self.names(ANY, ("is", "x", "Cons"), ("x", of("Cons", ANY)))
        # With "" it has to be noted both ways.
        self.bad(ANY, ("is", "x", "Box"))
        self.names(of("Box", INT), ("is", "x", "Box"), ("x", of("Box", INT)))

    def test_by_sign(self):
        world = program(
            trait("Out", kparams=(kparam("A", "+"),)), trait("In", kparams=(kparam("A", "-"),)),
            trait("Both", kparams=PARAM_A), *FISHES,
            cls("O1", kparams=(kparam("A", "+", FISH),), parents=(parent("Out", kinds=(A,)),)),
            cls("I1", kparams=(kparam("A", "-"),), parents=(parent("In", kinds=(A,)),)),
            cls("B1", kparams=PARAM_A, parents=(parent("Both", kinds=(A,)),)),
            cls("B2", kparams=PARAM_A, parents=(parent("Out", kinds=(A,)),)),
            cls("B3", kparams=(kparam("A"), kparam("B")), parents=(parent("Both", kinds=(A,)),)),
            cls("I2", kparams=(kparam("A", "-"),)))
        self.names(of("Out", COD), ("is", "x", "O1"), ("x", of("O1", COD)), world=world)
        self.names(mix(of("Out", FISH), of("Out", COD)), ("is", "x", "O1"), ("x", of("O1", COD)), world=world)
        self.names(ANY, ("is", "x", "O1"), ("x", of("O1", FISH)), world=world)
        self.names(of("In", COD), ("is", "x", "I1"), ("x", of("I1", COD)), world=world)
        self.names(ANY, ("is", "x", "I2"), ("x", of("I2", NONE)), world=world)
        self.names(mix(of("In", FISH), of("In", COD)), ("is", "x", "I1"), ("x", of("I1", FISH)), world=world)
        self.names(of("Both", COD), ("is", "x", "B1"), ("x", of("B1", COD)), world=world)
        self.bad(of("Out", COD), ("is", "x", "B2"), world=world)
        self.bad(of("Both", COD), ("is", "x", "B3"), world=world)
        self.bad(mix(of("Both", COD), of("Both", FISH)), ("is", "x", "B1"), world=world)
        two = trait("Two", kparams=(kparam("A"), kparam("B")))
        under = cls("Under", kparams=(kparam("A"), kparam("B", "", A)), parents=(parent("Two", kinds=(A, B)),))
        world = program(*FISHES, two, under)
        self.names(of("Two", FISH, COD), ("is", "x", "Under"), ("x", of("Under", FISH, COD)), world=world)
        self.bad(of("Two", COD, FISH), ("is", "x", "Under"), world=world)

    def test_what_no_object_can_be(self):
        world = program(*FISHES, trait("Salt"), trait("Box", kparams=PARAM_A), cls("Lack", a_def("f", INT)),
                        cls("IntBox", parents=(parent("Box", kinds=(INT,)),)), cls("Rock"), trait("Odd"))
        self.names(FISH, ("is", "x", "Cod"), ("x", COD), world=world)
        self.bad(FISH, ("is", "x", "Salt"), world=world)
        self.bad(FISH, ("is", "x", "Rock"), world=world)
        self.bad(ANY, ("is", "x", "Lack"), world=world)
        self.bad(INT, ("is", "x", "Cod"), world=world)
        self.bad(fun(INT), ("is", "x", "Cod"), world=world)
        self.bad(NONE, ("is", "x", "Cod"), world=world)
        self.names(of("Box", INT), ("is", "x", "IntBox"), ("x", of("IntBox")), world=world)
        self.bad(of("Box", TEXT), ("is", "x", "IntBox"), world=world)
        # A new that is of both lets it.
        mixed = (world[0], new("Cod", more=("Salt",)))
        self.names(FISH, ("is", "x", "Salt"), ("x", of("Salt")), world=mixed)
        self.bad(of("Pike"), ("is", "x", "Salt"), world=mixed)
        self.names(ANY, ("is", "x", "Salt"), ("x", of("Salt")), world=mixed)
        self.names(mix(FISH, COD), ("is", "x", "Salt"), ("x", of("Salt")), world=mixed)
        self.bad(mix(FISH, INT), ("is", "x", "Salt"), world=mixed)
        # Of the expression that is handed in, too.
        e = ("match", name("f"), ((("is", "x", "Salt"), num(1)), (ANY, then(new("Cod", more=("Salt",)), num(2)))))
        place = ((), (("f", FISH),))
        self.assertEqual(kind_at(world, place, e, None), ("found", INT))
        self.assertEqual(kind_at(world, place, e[:2] + (e[2][:1],), None), ("pattern", ()))

    def test_of_and_its_patterns(self):
        self.bad(of("List", INT), ("of", "Cons", ()))
        self.bad(of("List", INT), ("of", "Cons", (ANY, ANY, ANY)))
        self.names(of("List", INT), ("of", "nil", ()))
        self.names(of("List", INT), ("of", "Cons", (("lit", num(1)), ("of", "Cons", (("bind", "z"), ANY)))), ("z", INT))
        self.bad(of("List", INT), ("of", "Cons", (("lit", text("")), ANY)))
        self.bad(of("List", INT), ("of", "Cons", (("bind", "z"), ("bind", "z"))))

    def test_parts_of_this_in_vparams(self):
        world = program(
            cls("C", a_kind("K", ANY, INT), vparams=(("v", part("this", "K")),)),
            cls("D", a_kind("K", FISH), vparams=(("v", part("this", "K")),)), *FISHES,
            cls("D2", a_kind("K", FISH, COD), parents=(parent("D", ("stop", "")),)),
            cls("E", a_kind("K"), vparams=(("v", fun(part("this", "K"), INT)),)),
            cls("E2", a_kind("K", ANY, INT), parents=(parent("E", ("stop", "")),)))
        self.names(of("C"), ("of", "C", (("bind", "x"),)), ("x", INT), world=world)
        self.names(of("D"), ("of", "D", (("bind", "x"),)), ("x", FISH), world=world)
        self.bad(of("E"), ("of", "E", (("bind", "x"),)), world=world)

    def test_errors_and_their_sequence(self):
        for thing in NO_KINDS + (of("Eel"), of("Cod", INT), A, of("Box", A), part("nemo", "K"), fun(A)):
            with self.assertRaises(BadKind):
                names_of_pattern(WORLD, thing, ANY)
        for thing in (None, (), [], 5, "any", ("is", "X", "Cod"), ("bind", "X"), ("lit", ("unit",)), ("of", "Cod", [])):
            with self.assertRaises(BadPatterns):
                names_of_pattern(WORLD, INT, thing)
        self.bad(FISH, ("is", "x", "Eel"))
        with self.assertRaises(BadKind):
            names_of_pattern(WORLD, 5, 5)
        with self.assertRaises(BadPatterns):
            names_of_pattern(WORLD, of("Eel"), 5)
        with self.assertRaises(BadKind):
            names_of_pattern(WORLD, of("Eel"), ("is", "x", "Eel"))
        with self.assertRaises(NotLetBy):
            names_of_pattern(LOST, 5, 5)
        for thing in NO_PROGRAMS:
            with self.assertRaises(BadForm):
                names_of_pattern(program=thing, kind=5, pattern=5)


class FoundTest(unittest.TestCase):
    def test_whole_trees_of_all_bodies(self):
        one = (FISHES[:2] + (
            cls("Tank", a_val("fish", FISH, val(THIS, "own")), a_def("all1", INT),
                a_def("get", FISH, call(name("x"), "me"), params=(("x", of("Tank")),)), a_def("me", COD, new("Cod")),
                vparams=(("own", COD),)),
            obj("pool", a_def("all1", INT, num(1)), parents=(parent("Tank", new("Cod")),)),
            given("gi", INT, num(7))),
            then(("summon", INT), ("match", val(name("pool"), "fish"), (
                (("is", "c", "Cod"), num(1)), (("bind", "o"), num(2))))))
        cod = (new("Cod"), COD, (), (COD,))
        pool = (name("pool"), of("pool"), (), ())
        fish = (val(name("pool"), "fish"), FISH, (pool,), ())
        match = (one[1][2], INT, (fish, (num(1), INT, (), ()), (num(2), INT, (), ())),
                 ((("c", COD),), (("o", FISH),)))
        x = (name("x"), of("Tank"), (), ())
        self.assertEqual(found(one), [
            (("Cod", "title"), (text("cod"), TEXT, (), ())),
            (("Tank", "fish"), (val(THIS, "own"), COD, ((THIS, of("Tank"), (), ()),), ())),
            (("Tank", "get"), (call(name("x"), "me"), COD, (x,), ("Tank", (), ()))),
            (("Tank", "me"), cod), (("pool", 0), cod), (("pool", "all1"), (num(1), INT, (), ())),
            (("gi",), (num(7), INT, (), ())),
            ((), (one[1], INT, ((("summon", INT), INT, (), ("gi", (), ())), match), ()))])

    def test_calls_supers_and_written_givens(self):
        one = (FISHES[:3] + (
            cls("Asks", a_def("ask", A, name("w"), params=(("x", A),), kparams=PARAM_A, wants=(("w", A),))),
            given("gi", INT, num(7))),
            then(call(new("Asks"), "ask", num(1)), call(new("Asks"), "ask", num(1), givens=(num(2),)),
                 call(new("Asks"), "ask", num(1), kinds=(INT,))))
        trees = dict(found(one))
        above_e = FISHES[2][4][0][6][2]
        self.assertEqual(trees[("Loud", "title")][2][0], (above_e, TEXT, (), ("Fish", (), ())))
        asks = (new("Asks"), of("Asks"), (), (of("Asks"),))
        one_int = (num(1), INT, (), ())
        first, rest = trees[()][2]
        self.assertEqual(first, (one[1][1], INT, (asks, one_int), ("Asks", (INT,), (("gi", (), ()),))))
        two_int = (num(2), INT, (), ())
        self.assertEqual(rest[2][0][2:], ((asks, one_int, two_int), ("Asks", (INT,), (two_int,))))
        self.assertEqual(rest[2][1][3], ("Asks", (INT,), (("gi", (), ()),)))

    def test_of_new_the_kinds_of_its_parts(self):
        one = (FISHES + (cls("Box", kparams=PARAM_A), trait("Pair", kparams=(kparam("A"), kparam("B"))), trait("Salt")),
               new("Box", kinds=(INT,), more=("Salt", ("Pair", (COD, TEXT)))))
        self.assertEqual(found(one)[-1], ((), (one[1], mix(of("Box", INT), of("Salt"), of("Pair", COD, TEXT)), (),
                                               (of("Box", INT), of("Salt"), of("Pair", COD, TEXT)))))

    def test_kinds_are_told_as_they_stand(self):
        trees = dict(found(CAGES_PROGRAM))
        self.assertEqual(trees[("keeper", "best")][1], part("a", "Eats"))
        self.assertEqual(trees[("keeper", "both")][2][1][1], part("a", "Eats"))

    def test_each_list_is_new(self):
        found(FISHES_PROGRAM).clear()
        self.assertEqual(len(found(program=FISHES_PROGRAM)), 6)

    def test_errors(self):
        for thing in NO_PROGRAMS:
            with self.assertRaises(BadForm):
                found(thing)
        with self.assertRaises(NotLetBy) as caught:
            found(LOST)
        self.assertEqual(caught.exception.what, ("name", ()))


class KindAtErrorsTest(unittest.TestCase):
    def test_errors_and_their_sequence(self):
        for thing in NO_TREES:
            with self.assertRaises(BadForm):
                kind_at(WORLD, HERE, thing, 5)
            with self.assertRaises(BadForm):
                tree_right(WORLD, HERE, thing, 5)
        for thing in [kind for kind in NO_KINDS if kind is not None] + [A, of("Eel"), part("x", "K")]:
            with self.assertRaises(BadKind):
                kind_at(WORLD, HERE, ("unit",), thing)
        for thing in NO_PLACES:
            with self.assertRaises(BadPlace):
                kind_at(WORLD, thing, 5, 5)
            with self.assertRaises(BadPlace):
                tree_right(WORLD, thing, 5, 5)
        with self.assertRaises(BadKind):
            kind_at(WORLD, (("Eel",), ()), ("unit",), 5)
        with self.assertRaises(BadPlace):
            kind_at(WORLD, (("Eel",), ()), ("unit",), A)
        for thing in NO_PROGRAMS:
            for work in (kind_at, tree_right):
                with self.assertRaises(BadForm):
                    work(thing, 5, 5, 5)
                with self.assertRaises(NotLetBy):
                    work(LOST, 5, 5, 5)
        self.assertEqual(kind_at(program=WORLD, place=HERE, e=("unit",), wanted=None), ("found", UNIT))


def spoilt(tree):
    """Objects that are a tree with one thing in it changed, in kinds, parts and what is told beside."""
    for at in (1, 2, 3):
        for new_one in (None, 5, (), [], INT, TEXT, FISH, (INT,), ("gi", (), ()), "x"):
            if new_one != tree[at]:
                yield tree[:at] + (new_one,) + tree[at + 1:]
    for at, inner in enumerate(tree[2]):
        for one in spoilt(inner):
            yield tree[:2] + (tree[2][:at] + (one,) + tree[2][at + 1:],) + tree[3:]
    yield (("unit",),) + tree[1:]
    yield tree[:3]
    yield list(tree)


class TreeRightTest(unittest.TestCase):
    def test_what_is_found_is_right(self):
        for one in ALL_PROGRAMS:
            for where, tree in found(one):
                place = (tuple([step for step in where if isinstance(step, str)]), ())
                self.assertIs(tree_right(one, place, tree[0], tree), True)
                self.assertIs(tree_right(program=one, place=place, e=("stop", "zz"), thing=tree), False)

    def test_trees_that_are_spoilt_in_one_place(self):
        e = call(name("tool"), "pick", new("Cod"), name("f"))
        tree = (e, FISH, ((name("tool"), of("tool"), (), ()), (new("Cod"), COD, (), (COD,)), (name("f"), FISH, (), ())),
                ("tool", (FISH,), ()))
        self.assertIs(tree_right(WORLD, SHOP, e, tree), True)
        for thing in spoilt(tree):
            self.assertIs(tree_right(WORLD, SHOP, e, thing), False, thing)
        for thing in (None, 5, "x", [], (), e):
            self.assertIs(tree_right(WORLD, SHOP, e, thing), False)

    def test_kinds_that_are_chosen_otherwise(self):
        e = call(name("tool"), "pick", name("c"), name("c"))
        c = (name("c"), COD, (), ())
        def tree(kind, chosen):
            return (e, kind, ((name("tool"), of("tool"), (), ()), c, c), ("tool", (chosen,), ()))
        self.assertEqual(kind_at(WORLD, SHOP, e, None), ("found", COD))
        for kind in (COD, FISH, ANY, mix(FISH, ANY)):
            self.assertIs(tree_right(WORLD, SHOP, e, tree(kind, kind)), True)
        self.assertIs(tree_right(WORLD, SHOP, e, tree(mix(COD, FISH), COD)), True)
        for kind, chosen in ((INT, INT), (COD, FISH), (FISH, COD), (NONE, NONE), (A, A), (of("Eel"), of("Eel"))):
            self.assertIs(tree_right(WORLD, SHOP, e, tree(kind, chosen)), False)
        fishy = call(name("tool"), "fishy", ("stop", ""))
        stop = (("stop", ""), NONE, (), ())
        for chosen, right in ((FISH, True), (COD, True), (INT, False), (NONE, True), (ANY, False)):
            told = (fishy, chosen, ((name("tool"), of("tool"), (), ()), stop), ("tool", (chosen,), ()))
            self.assertIs(tree_right(WORLD, SHOP, fishy, told), right)

    def test_kinds_of_what_works_to_others(self):
        c, n, yes = (name("c"), COD, (), ()), (num(1), INT, (), ()), (("truth", True), TRUTH, (), ())
        e = ("if", yes[0], c[0], n[0])
        self.assertIs(tree_right(WORLD, SHOP, e, (e, ANY, (yes, c, n), ())), True)
        self.assertIs(tree_right(WORLD, SHOP, e, (e, FISH, (yes, c, n), ())), False)
        e = let("x", c[0], name("x"))
        x = (name("x"), COD, (), ())
        for kind in (COD, FISH, ANY):
            self.assertIs(tree_right(WORLD, SHOP, e, (e, kind, (c, x), ())), True)
        self.assertIs(tree_right(WORLD, SHOP, e, (e, PIKE, (c, x), ())), False)
        self.assertIs(tree_right(WORLD, SHOP, e, (e, FISH, (c, (name("x"), FISH, (), ())), ())), False)
        e = ("fun", (("x", COD),), name("x"))
        for kind, right in ((fun(COD, COD), True), (fun(COD, FISH), True), (fun(COD, INT), False),
                            (fun(FISH, COD), False), (ANY, False), (fun(COD), False)):
            self.assertIs(tree_right(WORLD, SHOP, e, (e, kind, (x,), ())), right)
        e = then(c[0], n[0])
        self.assertIs(tree_right(WORLD, SHOP, e, (e, ANY, (c, n), ())), True)
        self.assertIs(tree_right(WORLD, SHOP, e, (e, TEXT, (c, n), ())), False)

    def test_kinds_of_extensions_that_are_chosen_otherwise(self):
        one = program(*FISHES, extend("ex", ("x", A), a_def("me", A, name("x")), kparams=(kparam("A", "", FISH),)))
        place = ((), (("c", COD),))
        e = call(name("c"), "me")
        c = (name("c"), COD, (), ())
        self.assertEqual(kind_at(one, place, e, None), ("found", COD))
        for kind, right in ((COD, True), (FISH, True), (ANY, False), (PIKE, False), (NONE, False)):
            self.assertIs(tree_right(one, place, e, (e, kind, (c,), ("extend", "ex", (kind,), (), ()))), right)
        for more in (("extend", "ex", (), (), ()), ("extend", "ex", (COD,), (COD,), ()), ("extend", "ey", (COD,), (), ()),
                     ("extend", "ex", (COD,), ()), ("ex", "ex", (COD,), (), ()), (), ((COD,), (), ())):
            self.assertIs(tree_right(one, place, e, (e, COD, (c,), more)), False)

    def test_evidence_of_calls(self):
        one = program(given("gi", INT, num(1)), obj("o", a_def("f", INT, num(1), wants=(("w", INT),))))
        e = call(name("o"), "f")
        o = (name("o"), of("o"), (), ())
        for evidences, right in (((("gi", (), ()),), True), ((), False), ((("hi", (), ()),), False), (None, False),
                                 ((("gi", (), ()), ("gi", (), ())), False), ([("gi", (), ())], False)):
            self.assertIs(tree_right(one, HERE, e, (e, INT, (o,), ("o", (), evidences))), right)

    def test_the_same_kinds_spelled_otherwise(self):
        place = ((), (("c", of("Cow")),))
        e = call(name("keeper"), "best", name("c"))
        inner = ((name("keeper"), of("keeper"), (), ()), (name("c"), of("Cow"), (), ()))
        for kind, right in ((part("c", "Eats"), True), (of("Hay"), True), (of("Food"), False), (ANY, False)):
            self.assertIs(tree_right(CAGES_PROGRAM, place, e, (e, kind, inner, ("keeper", (), ()))), right)

    def test_evidence_that_fits(self):
        one = program(given("gi", INT, num(1)), given("hi", INT, num(2)))
        e = ("summon", INT)
        self.assertEqual(kind_at(one, HERE, e, None), ("ambiguous", ()))
        for evidence, right in ((("gi", (), ()), True), (("hi", (), ()), True), (("ji", (), ()), False),
                                (("gi", (INT,), ()), False), ((), False)):
            self.assertIs(tree_right(one, HERE, e, (e, INT, (), evidence)), right)

    def test_names_of_matches(self):
        e = ("match", name("l"), ((("of", "Cons", (("bind", "h"), ANY)), name("h")),))
        parts = ((name("l"), of("List", INT), (), ()), (name("h"), INT, (), ()))
        self.assertIs(tree_right(WORLD, SHOP, e, (e, INT, parts, ((("h", INT),),))), True)
        for more in ((), ((),), ((("h", TEXT),),), ((("z", INT),),), ((("h", INT),), ()), ([("h", INT)],)):
            self.assertIs(tree_right(WORLD, SHOP, e, (e, INT, parts, more)), False)

    def test_true_is_no_integer(self):
        e = num(1)
        self.assertIs(tree_right(WORLD, HERE, e, (e, INT, (), ())), True)
        self.assertIs(tree_right(WORLD, HERE, e, (("int", True), INT, (), ())), False)

    def test_an_expression_that_is_not_right(self):
        for e in (name("lost"), new("Fish"), new("Eel")):
            self.assertIs(tree_right(WORLD, HERE, e, (e, ANY, (), ())), False)


if __name__ == "__main__":
    unittest.main()
