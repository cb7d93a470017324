"""Programs and parts of programs for the tests, and a few ways to build them."""

ANY = ("any",)
INT = ("int",)
TEXT = ("text",)
UNIT = ("unit",)  # the kind, the expression and the literal are spelled alike


def with_main(e):
    """A program of nothing but an expression."""
    return ((), e)


def with_kind(kind):
    """A program in which a kind stands, in a summon."""
    return with_main(("summon", kind))


def with_pattern(pattern):
    """A program in which a pattern stands, in a match."""
    return with_main(("match", UNIT, ((pattern, UNIT),)))


def with_definitions(*definitions):
    """A program of definitions, with the unit as its main."""
    return (definitions, UNIT)


def a_class(name="A", kparams=(), vparams=(), parents=(), members=(), is_sealed=False):
    return ("class", name, kparams, vparams, parents, members, is_sealed)


def a_trait(name="T", kparams=(), parents=(), members=(), is_sealed=False):
    return ("trait", name, kparams, parents, members, is_sealed)


def an_object(name="o", parents=(), members=()):
    return ("object", name, parents, members)


def a_given(name="g", kparams=(), wants=(), kind=INT, e=("int", 1)):
    return ("given", name, kparams, wants, kind, e)


def an_extension(name="x", kparams=(), on=("a", INT), wants=(), members=()):
    return ("extend", name, kparams, on, wants, members)


def a_def(name="f", kparams=(), params=(), wants=(), kind=INT, e=("int", 1)):
    return ("def", name, kparams, params, wants, kind, e)


def with_member(member):
    """A program in which a member stands, in a class."""
    return with_definitions(a_class(members=(member,)))


def with_e_in_member(e):
    return with_member(("val", "v", INT, e))


def deep_kind(many):
    """So many kinds within one another."""
    kind = INT
    for _ in range(many - 1):
        kind = ("of", "Box", (kind,))
    return kind


def deep_tree(many):
    """So many trees within one another."""
    tree = UNIT
    for _ in range(many - 1):
        tree = ("show", tree)
    return tree


def deep_pattern(many):
    """So many patterns within one another."""
    pattern = ANY
    for _ in range(many - 1):
        pattern = ("of", "Box", (pattern,))
    return pattern


def many_trees(many):
    """So many trees in an expression, few within one another."""
    tree = UNIT
    rest = many - 1
    while rest > 0:
        step = min(rest, 6)
        args = tuple([UNIT] * (step - 1))
        tree = ("apply", tree, args)
        rest -= step
    return tree


def small_names(many):
    return ["n" + str(number) for number in range(many)]


def big_names(many):
    return ["N" + str(number) for number in range(many)]


# One of each sort of definition, member, kind, path, expression and pattern.
FULL = (
    (
        ("trait", "Fish", (("A", "+", ANY), ("B", "-", ("none",))), (),
         (("kind", "Food", ANY, None),
          ("kind", "Home", ANY, INT),
          ("val", "age", INT, None),
          ("val", "tag", TEXT, ("text", "")),
          ("lazy", "twice", INT, ("op", "*", ("val", ("this",), "age"), ("int", -2))),
          ("def", "eat", (("C", "", ("of", "Fish", (("var", "A"), ("var", "B")))),),
           (("food", ("part", ("this",), "Food"), False), ("more", INT, True)),
           (("want", ("part", ("this", "tag", "age"), "Food")),),
           ("fun", (INT, ("truth",)), UNIT), None),
          ("given", "here", ("var", "A"), ("stop", "no '"))),
         True),
        ("class", "Cod", (("A", "", ANY),), (("name1", TEXT), ("size", INT)),
         (("Fish", (("var", "A"), INT), (("name", "size"), ("int", 0))), ("Loud", (), ())),
         (("def", "eat", (), (), (), INT, ("super", "eat", None, (), None)),),
         False),
        ("trait", "Loud", (), (), (), False),
        ("object", "nemo", (("Cod", (INT,), (("text", "nemo"), ("int", 5))),), ()),
        ("given", "showInt", (("A", "", ("with", (ANY, INT))),), (("w", ("var", "A")),),
         ("of", "Fish", (INT, INT)), ("name", "w")),
        ("extend", "extra", (("A", "", ANY),), ("x", ("var", "A")), (("w", INT),),
         (("def", "plus", (("B", "", ANY),), (("y", INT, False),), (), INT,
           ("op", "+", ("name", "x"), ("name", "y"))),)),
    ),
    ("let", "a", None, ("new", (("Cod", (INT,), (("text", "a b"), ("int", 12))), ("Loud", (), ()))),
     ("let", "b", INT, ("call", ("name", "a"), "eat", (INT,), (("int", 1),), (("int", 2),)),
      ("lazy", "c", ("part", ("a",), "Food"), ("fun", (("p", INT), ("q", TEXT)), ("name", "p")),
       ("given", "d", UNIT, ("show", ("truth", True)),
        ("if", ("op", "and", ("truth", False), ("truth", True)),
         ("match", ("name", "nemo"), (
             (("any",), ("apply", ("name", "c"), (("int", 1), ("text", "b")))),
             (("bind", "z"), ("then", ("show", ("name", "z")), ("unit",))),
             (("lit", ("int", 3)), ("unit",)),
             (("lit", ("text", "t")), ("summon", UNIT)),
             (("lit", ("truth", False)), ("unit",)),
             (("is", "y", "nemo"), ("unit",)),
             (("of", "Cod", (("any",), ("is", "k", "Cod"))), ("stop", "end")))),
         ("unit",)))))),
)

FULL_TEXT = (
    "(((trait Fish ((A + (any)) (B - (none))) () "
    "((kind Food (any) none0) (kind Home (any) (int)) (val age (int) none0) "
    "(val tag (text) (text \"\")) (lazy twice (int) (op * (val (this) age) (int -2))) "
    "(def eat ((C -0 (of Fish ((var A) (var B))))) "
    "((food (part (this) Food) no) (more (int) yes)) "
    "((want (part (this tag age) Food))) (fun ((int) (truth)) (unit)) none0) "
    "(given here (var A) (stop \"no '\"))) yes) "
    "(class Cod ((A -0 (any))) ((name1 (text)) (size (int))) "
    "((Fish ((var A) (int)) ((name size) (int 0))) (Loud () ())) "
    "((def eat () () () (int) (super eat none0 () none0))) no) "
    "(trait Loud () () () no) "
    "(object nemo ((Cod ((int)) ((text \"nemo\") (int 5)))) ()) "
    "(given showInt ((A -0 (with ((any) (int))))) ((w (var A))) "
    "(of Fish ((int) (int))) (name w)) "
    "(extend extra ((A -0 (any))) (x (var A)) ((w (int))) "
    "((def plus ((B -0 (any))) ((y (int) no)) () (int) (op + (name x) (name y)))))) "
    "(let a none0 (new ((Cod ((int)) ((text \"a b\") (int 12))) (Loud () ()))) "
    "(let b (int) (call (name a) eat ((int)) ((int 1)) ((int 2))) "
    "(lazy c (part (a) Food) (fun ((p (int)) (q (text))) (name p)) "
    "(given d (unit) (show (truth yes)) "
    "(if (op and (truth no) (truth yes)) "
    "(match (name nemo) (((any) (apply (name c) ((int 1) (text \"b\")))) "
    "((bind z) (then (show (name z)) (unit))) ((lit (int 3)) (unit)) "
    "((lit (text \"t\")) (summon (unit))) ((lit (truth no)) (unit)) "
    "((is y nemo) (unit)) ((of Cod ((any) (is k Cod))) (stop \"end\")))) (unit)))))))"
)
