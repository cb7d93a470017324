"""Programs that are let by, for the tests of stages 2 and 3, and short ways to build them."""

ANY = ("any",)
NONE = ("none",)
INT = ("int",)
TRUTH = ("truth",)
TEXT = ("text",)
UNIT = ("unit",)
HERE = ((), ())
THIS = ("this",)


def of(name, *kinds):
    return ("of", name, kinds)


def var(name):
    return ("var", name)


def part(*steps):
    """A kind member of a path: its steps, then its name."""
    return ("part", steps[:-1], steps[-1])


def fun(*kinds):
    """The kind of a fun: what it takes, then what it gives."""
    return ("fun", kinds[:-1], kinds[-1])


def mix(*kinds):
    return ("with", kinds)


def name(x):
    return ("name", x)


def num(n):
    return ("int", n)


def text(t):
    return ("text", t)


def val(e, x):
    return ("val", e, x)


def call(e, x, *args, kinds=None, givens=None):
    return ("call", e, x, kinds, args, givens)


def above(x, *args, kinds=None, givens=None):
    return ("super", x, kinds, args, givens)


def new(class_name, *args, kinds=(), more=()):
    """A new of a class with args, and of further traits: names, or names with kinds."""
    further = tuple((one, (), ()) if isinstance(one, str) else (one[0], one[1], ()) for one in more)
    return ("new", ((class_name, kinds, args),) + further)


def let(x, e, rest, kind=None):
    return ("let", x, kind, e, rest)


def then(*es):
    return es[0] if len(es) == 1 else ("then", es[0], then(*es[1:]))


def op(word, one, other):
    return ("op", word, one, other)


def parent(class_name, *args, kinds=()):
    return (class_name, kinds, args)


def kparam(letter, sign="", upper=ANY):
    return (letter, sign, upper)


def trait(class_name, *members, kparams=(), parents=(), sealed=False):
    return ("trait", class_name, kparams, parents, members, sealed)


def cls(class_name, *members, kparams=(), vparams=(), parents=(), sealed=False):
    return ("class", class_name, kparams, vparams, parents, members, sealed)


def obj(x, *members, parents=()):
    return ("object", x, parents, members)


def given(x, kind, e, kparams=(), wants=()):
    return ("given", x, kparams, wants, kind, e)


def extend(x, on, *members, kparams=(), wants=()):
    return ("extend", x, kparams, on, wants, members)


def a_def(x, kind, e=None, params=(), kparams=(), wants=()):
    """A def; its params are (name, kind), or (name, kind, True) by name."""
    told = tuple(one if len(one) == 3 else one + (False,) for one in params)
    return ("def", x, kparams, told, wants, kind, e)


def a_val(x, kind, e=None):
    return ("val", x, kind, e)


def lazy(x, kind, e):
    return ("lazy", x, kind, e)


def own_given(x, kind, e):
    return ("given", x, kind, e)


def a_kind(letter, upper=ANY, kind=None):
    return ("kind", letter, upper, kind)


A, B = var("A"), var("B")
PARAM_A = (kparam("A"),)
FISH, COD = of("Fish"), of("Cod")

# Fish with traits that stack: super goes along the order.
FISHES = (
    trait("Fish", a_def("title", TEXT)),
    cls("Cod", a_def("title", TEXT, text("cod")), parents=(parent("Fish"),)),
    trait("Loud", a_def("title", TEXT, op("join", above("title"), text("!"))),
          parents=(parent("Fish"),)),
    trait("Big", a_def("title", TEXT, op("join", text("big "), above("title"))),
          parents=(parent("Fish"),)),
    cls("Pike", a_val("teeth", INT, num(700)), vparams=(("age", INT),),
        parents=(parent("Cod"), parent("Big"))),
    obj("nemo", parents=(parent("Pike", num(3)), parent("Loud"))),
)
FISHES_PROGRAM = (FISHES, then(
    ("show", call(new("Cod", more=("Loud", "Big")), "title")),
    let("p", new("Pike", num(7)), op("+", val(name("p"), "age"), val(name("nemo"), "teeth")))))

# Boxes and showing, with givens that want givens.
SHOWS = (
    trait("Show", a_def("show1", TEXT, params=(("x", A),)), kparams=PARAM_A),
    cls("ShowInt", a_def("show1", TEXT, text("int"), params=(("x", INT),)),
        parents=(parent("Show", kinds=(INT,)),)),
    cls("Box", kparams=(kparam("A", "+"),), vparams=(("v", A),)),
    given("showInt", of("Show", INT), new("ShowInt")),
    extend("told", ("x", A), a_def("told", TEXT, call(name("s"), "show1", name("x"))),
           kparams=PARAM_A, wants=(("s", of("Show", A)),)),
    obj("tool",
        a_def("pick", A, name("y"), params=(("x", A), ("y", A)), kparams=PARAM_A),
        a_def("apply1", B, ("apply", name("f"), (name("x"),)),
              params=(("x", A), ("f", fun(A, B))), kparams=(kparam("A"), kparam("B"))),
        a_def("lots", INT, op("+", name("n"), name("n")), params=(("n", INT, True),)),
        a_def("shown", TEXT, call(name("s"), "show1", name("x")), params=(("x", A),),
              kparams=PARAM_A, wants=(("s", of("Show", A)),))),
)
SHOWS_PROGRAM = (SHOWS, then(
    ("show", call(num(3), "told")),
    ("show", call(name("tool"), "shown", num(4))),
    ("show", call(name("tool"), "lots", call(name("tool"), "pick", num(1), num(2)))),
    call(name("tool"), "apply1", num(3), ("fun", (("n", INT),), op("join", text("a"), text("b"))))))

# Cages: kinds as parts of things.
CAGES = (
    trait("Food"),
    cls("Hay", parents=(parent("Food"),)),
    cls("Meat", parents=(parent("Food"),)),
    trait("Animal", a_kind("Eats", of("Food")), a_def("eat", UNIT, params=(("f", part("this", "Eats")),)),
          a_val("best", part("this", "Eats"))),
    cls("Cow", a_kind("Eats", of("Food"), of("Hay")), a_val("best", of("Hay"), new("Hay")),
        a_def("eat", UNIT, ("unit",), params=(("f", of("Hay")),)), parents=(parent("Animal"),)),
    obj("lion", a_kind("Eats", of("Food"), of("Meat")), a_val("best", of("Meat"), new("Meat")),
        a_def("eat", UNIT, ("show", text("yum")), params=(("f", of("Meat")),)),
        parents=(parent("Animal"),)),
    obj("keeper",
        a_def("feed", UNIT, call(name("a"), "eat", name("f")),
              params=(("a", of("Animal")), ("f", part("a", "Eats")))),
        a_def("best", part("a", "Eats"), val(name("a"), "best"), params=(("a", of("Animal")),)),
        a_def("both", UNIT, call(name("a"), "eat", val(name("a"), "best")),
              params=(("a", of("Animal")),))),
)
CAGES_PROGRAM = (CAGES, let("c", new("Cow"), then(
    call(name("keeper"), "feed", name("c"), new("Hay")),
    call(name("keeper"), "feed", name("lion"), new("Meat")),
    call(name("c"), "eat", call(name("keeper"), "best", name("c"))),
    call(name("keeper"), "both", name("lion")))))

# A sealed list and an option, with matches.
LISTS = (
    trait("List", kparams=(kparam("A", "+"),), sealed=True),
    cls("Cons", kparams=(kparam("A", "+"),), vparams=(("head", A), ("tail", of("List", A))),
        parents=(parent("List", kinds=(A,)),)),
    obj("nil", parents=(parent("List", kinds=(NONE,)),)),
    obj("lists",
        a_def("sum1", INT, ("match", name("l"), (
            (("of", "Cons", (("bind", "h"), ("bind", "t"))),
             op("+", name("h"), call(THIS, "sum1", name("t")))),
            (("is", "n", "nil"), num(0)))), params=(("l", of("List", INT)),)),
        a_def("map1", of("List", B), ("match", name("l"), (
            (("of", "Cons", (("bind", "h"), ("bind", "t"))),
             new("Cons", ("apply", name("f"), (name("h"),)),
                 call(THIS, "map1", name("t"), name("f")), kinds=(B,))),
            (ANY, name("nil")))),
              params=(("l", of("List", A)), ("f", fun(A, B))), kparams=(kparam("A"), kparam("B")))),
)
LISTS_PROGRAM = (LISTS, let("l", new("Cons", num(1), new("Cons", num(2), name("nil"), kinds=(INT,)),
                                     kinds=(INT,)),
                            call(name("lists"), "sum1",
                                 call(name("lists"), "map1", name("l"),
                                      ("fun", (("n", INT),), op("*", name("n"), num(2)))))))

ALL_PROGRAMS = (FISHES_PROGRAM, SHOWS_PROGRAM, CAGES_PROGRAM, LISTS_PROGRAM)

# Givens of lets, of this, of wants; wants behind one another; rounds.
ORDS = (
    trait("Ord", a_def("less", TRUTH, params=(("x", A), ("y", A))), kparams=(kparam("A", "-"),)),
    cls("OrdInt", a_def("less", TRUTH, op("<", name("x"), name("y")),
                        params=(("x", INT), ("y", INT))),
        parents=(parent("Ord", kinds=(INT,)),)),
    cls("OrdAny", a_def("less", TRUTH, ("truth", False), params=(("x", ANY), ("y", ANY))),
        parents=(parent("Ord", kinds=(ANY,)),)),
    cls("Pair", a_def("swap", of("Pair", B, A), new("Pair", val(THIS, "two"), val(THIS, "one"),
                                                    kinds=(B, A))),
        kparams=(kparam("A"), kparam("B")), vparams=(("one", A), ("two", B))),
    cls("ByOne", a_def("less", TRUTH, call(val(THIS, "o"), "less", val(name("x"), "one"),
                                           val(name("y"), "one")),
                       params=(("x", of("Pair", A, B)), ("y", of("Pair", A, B)))),
        kparams=(kparam("A"), kparam("B")), vparams=(("o", of("Ord", A)),), parents=()),
    given("ordInt", of("Ord", INT), new("OrdInt")),
    given("ordAny", of("Ord", ANY), new("OrdAny")),
    given("one", of("ByOne", A, B), new("ByOne", name("o"), kinds=(A, B)),
          kparams=(kparam("A"), kparam("B")), wants=(("o", of("Ord", A)),)),
    cls("Holder", own_given("mine", of("Ord", TEXT), new("OrdAny")),
        a_def("use", TRUTH, call(("summon", of("Ord", TEXT)), "less", text("a"), text("b"))),
        a_def("asked", TRUTH, call(name("w"), "less", name("x"), name("x")),
              params=(("x", A),), kparams=PARAM_A, wants=(("w", of("Ord", A)),)),
        a_def("more", TRUTH, call(THIS, "asked", name("x")), params=(("x", INT),),
              wants=(("v", of("Ord", INT)),))),
)
ORDS_PROGRAM = (ORDS, ("given", "near", of("Ord", INT), new("OrdInt"), then(
    ("show", call(new("Holder"), "asked", num(1))),
    ("show", call(new("Holder"), "asked", num(1), givens=(name("near"),))),
    ("show", call(new("Holder"), "more", num(2))),
    call(("summon", of("ByOne", INT, TEXT)), "less",
         call(new("Pair", text("a"), num(1), kinds=(TEXT, INT)), "swap"),
         new("Pair", num(2), text("b"), kinds=(INT, TEXT))))))

# Longer paths, lazies, names that hide, kinds that are made plain.
PATHS = (
    trait("Cell", a_kind("Thing"), a_val("thing", part("this", "Thing"))),
    cls("IntCell", a_kind("Thing", ANY, INT), parents=(parent("Cell"),),
        vparams=(("thing", INT),)),
    cls("Rack", a_val("more", part("this", "cell", "Thing"), val(val(THIS, "cell"), "thing")),
        a_def("same", part("this", "cell", "Thing"), name("x"),
              params=(("x", part("this", "cell", "Thing")),)),
        vparams=(("cell", of("Cell")),)),
    obj("rack", a_val("inner", of("Rack"), new("Rack", new("IntCell", num(1)))),
        lazy("near", part("rack", "inner", "cell", "Thing"),
              val(val(val(name("rack"), "inner"), "cell"), "thing")),
        lazy("late", INT, num(4))),
    cls("Wrap", a_kind("Own", ANY, of("Two", A)), a_val("own", part("this", "Own")), kparams=PARAM_A),
    cls("Two", kparams=PARAM_A, vparams=(("a", A), ("b", A))),
    cls("WrapInt", a_val("own", part("this", "Own"), new("Two", num(1), num(2), kinds=(INT,))),
        parents=(parent("Wrap", kinds=(INT,)),)),
)
PATHS_PROGRAM = (PATHS, let("c", new("IntCell", num(5)), let("r", new("Rack", name("c")), then(
    ("show", op("+", val(name("c"), "thing"), num(1))),
    let("t", val(name("r"), "more"), call(name("r"), "same", name("t"))),
    ("lazy", "z", INT, val(name("rack"), "late"), op("+", name("z"), num(1))),
    ("match", val(new("WrapInt"), "own"), ((("of", "Two", (("bind", "x"), ("lit", ("int", 2)))), name("x")),
                                           (("is", "w", "Two"), val(name("w"), "b"))))))))

# Supers with kinds and givens, matches by "is", traits with parameters, several parts.
LAYERS = (
    trait("Base", a_def("over", B, params=(("x", A), ("f", fun(A, B))), kparams=(kparam("B"),)),
          kparams=PARAM_A),
    cls("Plain1", a_def("over", B, ("apply", name("g"), (name("y"),)),
                        params=(("y", TEXT), ("g", fun(TEXT, B))), kparams=(kparam("B"),)),
        parents=(parent("Base", kinds=(TEXT,)),)),
    trait("Twice", a_def("over", var("C"), then(("show", above("over", name("x"), name("f"))),
                                                above("over", name("x"), name("f"), kinds=(var("C"),))),
                         params=(("x", A), ("f", fun(A, var("C")))), kparams=(kparam("C"),)),
          kparams=PARAM_A, parents=(parent("Base", kinds=(A,)),)),
    trait("Tag", a_val("tag", TEXT, text("t"))),
    cls("Both", parents=(parent("Plain1"), parent("Twice", kinds=(TEXT,)))),
    obj("teller",
        a_def("tell", TEXT, ("match", name("b"), (
            (("is", "t", "Tag"), val(name("t"), "tag")),
            (("is", "p", "Both"), call(name("p"), "over", text("x"),
                                       ("fun", (("s", TEXT),), op("join", name("s"), name("s"))))),
            (ANY, text("")))), params=(("b", of("Base", TEXT)),))),
)
LAYERS_PROGRAM = (LAYERS, then(
    ("show", call(name("teller"), "tell", new("Plain1", more=(("Twice", (TEXT,)), "Tag")))),
    call(name("teller"), "tell", new("Both"))))

ALL_PROGRAMS = ALL_PROGRAMS + (ORDS_PROGRAM, PATHS_PROGRAM, LAYERS_PROGRAM)
