"""Checks: points 11 and 12."""

import unittest

from linearmix.checks import check, let_by
from linearmix.errors import BadForm
from linearmix.forms import moved, renamed
from test_orders import NO_PROGRAMS, program
from worlds import (A, ALL_PROGRAMS, ANY, B, CAGES, COD, FISHES, INT, LISTS, NONE, PARAM_A, SHOWS, TEXT, THIS,
                    TRUTH, UNIT, a_def, a_kind, a_val, above, call, cls, extend, fun, given, kparam, lazy, let,
                    mix, name, new, num, obj, of, op, own_given, parent, part, text, then, trait, val, var)

BOX = cls("Box", kparams=PARAM_A, vparams=(("v", A),))
LOST = name("lost")


class CheckTest(unittest.TestCase):
    """told: what check tells; main: of an expression, behind definitions."""

    def told(self, wanted, *definitions, main=("unit",)):
        one = (definitions, main)
        self.assertEqual(check(one), wanted)
        self.assertIs(let_by(one), wanted is None)

    def main(self, wanted, e, *definitions):
        self.told(wanted, *definitions, main=e)


class LetByTest(CheckTest):
    def test_programs_that_are_let_by(self):
        for one in ALL_PROGRAMS:
            self.assertIsNone(check(one))
            self.assertIs(let_by(program=one), True)
        self.assertIsNone(check(program=((), ("unit",))))

    def test_moved_and_renamed_ones(self):
        for one in ALL_PROGRAMS:
            numbers = tuple(range(len(one[0])))
            self.assertIsNone(check(moved(one, numbers[::-1])))
            self.assertIsNone(check(moved(one, numbers[1:] + numbers[:1])))
            for definition in one[0]:
                other = "Newname" if definition[1][0].isupper() else "newname"
                self.assertIsNone(check(renamed(one, definition[1], other)))

    def test_the_documents_example(self):
        definitions = (
            ("trait", "Fish", (), (), (("def", "title", (), (), (), ("text",), None),), False),
            ("class", "Cod", (), (), (("Fish", (), ()),),
             (("def", "title", (), (), (), ("text",), ("text", "cod")),), False))
        title = ("call", ("name", "f"), "title", None, (), None)
        cod = ("new", (("Cod", (), ()),))
        self.main(("kind", (1, 1)), ("let", "f", None, cod, ("op", "+", ("int", 1), title)), *definitions)
        self.main(None, ("let", "f", None, cod, ("op", "join", ("text", "a"), title)), *definitions)

    def test_bad_form(self):
        for thing in NO_PROGRAMS:
            for work in (check, let_by):
                with self.assertRaises(BadForm):
                    work(thing)


class NamesTest(CheckTest):
    def test_nothing_of_that_name_in_reach(self):
        self.main(("name", ()), LOST)
        self.main(("name", ()), THIS)
        self.main(("name", (1, 0)), op("+", num(1), op("+", LOST, LOST)))
        self.told(("name", ("C", "f", 0)), cls("C", a_def("f", INT, op("+", LOST, num(1)))))
        self.told(("name", ("C", "f")), cls("C", a_def("f", INT, LOST)))
        self.told(("name", ("gi",)), given("gi", INT, LOST))
        self.told(("name", ("ex", "f")), extend("ex", ("x", INT), a_def("f", INT, LOST)))
        self.told(("name", ("D", 1)), cls("C", vparams=(("a", INT), ("b", INT))),
                  cls("D", parents=(parent("C", num(1), LOST),)))
        self.told(("name", ("ex", "f")), extend("ex", ("x", INT), a_def("f", INT, THIS)))
        self.told(("name", ("gi",)), given("gi", INT, THIS))

    def test_what_is_in_reach_by_name(self):
        self.told(("name", ("C", "f")), cls("C", a_def("f", INT, name("v")), vparams=(("v", INT),)))
        self.told(None, cls("C", a_def("f", INT, val(THIS, "v")), vparams=(("v", INT),)))
        c = cls("C", vparams=(("v", INT),))
        self.told(None, c, cls("D", vparams=(("w", INT),), parents=(parent("C", name("w")),)))
        self.told(("name", ("D", 0, 0)), c, cls("D", vparams=(("w", INT),), parents=(
            parent("C", val(THIS, "w")),)))
        self.told(("name", ("C", "g")), cls("C", a_def("f", INT, num(1)), a_def("g", INT, name("f"))))
        self.main(("name", ()), name("gi"), given("gi", INT, num(1)))
        self.main(("name", (0,)), let("x", name("x"), num(1)))

    def test_kinds(self):
        self.told(("name", ("C", "f")), cls("C", a_def("f", var("A"), ("stop", ""))))
        self.told(("name", ("C",)), cls("C", kparams=(kparam("A", "", var("B")), kparam("B"))))
        self.told(("name", ("C",)), cls("C", kparams=(kparam("A", "", A),)))
        self.told(None, cls("C", kparams=(kparam("A"), kparam("B", "", A))))
        self.told(("name", ("C", "f")), cls("C", a_def("f", INT, num(1), kparams=(
            kparam("B", "", var("D")), kparam("D")))))
        self.told(("name", ("C",)), cls("C", vparams=(("v", part("w", "K")),)))
        self.told(("name", ("C",)), cls("C", kparams=(kparam("A", "", part("this", "K")),)))
        self.told(("name", ("C",)), BOX, cls("C", parents=(parent("Box", ("stop", ""), kinds=(A,)),)))
        self.main(("name", (0,)), then(("summon", part("this", "K")), ("unit",)))
        self.main(("name", ()), let("x", num(1), num(2), kind=A))
        self.main(("name", ()), ("fun", (("x", part("x", "K")),), num(1)))
        self.main(("name", (1,)), then(num(1), new("Box", num(1), kinds=(A,))), BOX)
        self.main(("name", ()), call(num(1), "f", kinds=(A,)))

    def test_reach_of_params_wants_and_results(self):
        cage = trait("Cage", a_kind("K"))
        here = part("a", "K")
        self.told(None, cage, cls("C", a_def("f", here, ("stop", ""), params=(
            ("a", of("Cage")), ("b", here)), wants=(("w", here),))))
        self.told(("name", ("C", "f")), cage, cls("C", a_def("f", INT, ("stop", ""), params=(
            ("b", here), ("a", of("Cage"))))))
        self.told(("name", ("C", "f")), cage, cls("C", a_def("f", INT, ("stop", ""), params=(
            ("a", of("Cage")),), kparams=(kparam("B", "", here),))))
        self.told(("name", ("gi",)), cage, given("gi", here, ("stop", ""), wants=(("a", of("Cage")),)))
        self.told(None, cage, given("gi", INT, ("stop", ""), wants=(("a", of("Cage")), ("b", here))))
        self.told(None, cage, extend("ex", ("a", of("Cage")), a_def("f", here, ("stop", ""), wants=(("c", here),)),
                                     wants=(("b", here),)))
        self.told(("name", ("ex", "f")), cage, extend("ex", ("a", of("Cage")), a_def(
            "f", INT, num(1), kparams=(kparam("B", "", here),))))
        self.told(None, cage, cls("C", a_def("f", INT, num(1), kparams=(kparam("B", "", part("this", "k", "K")),)),
                                  a_val("k", of("Cage"))))

    def test_names_that_hide_objects(self):
        cage, o = trait("Cage", a_kind("K"), a_val("k", part("this", "K"))), obj("o", a_kind("K", ANY, INT))
        here = part("o", "K")
        params = (("o", of("Cage")), ("p", here))
        self.told(None, cage, o, cls("C", a_def("f", here, name("p"), params=params, wants=(("w", here),))))
        self.told(("kind", ("C", "f")), cage, o, cls("C", a_def("f", here, num(1), params=params)))
        self.told(None, cage, o, cls("C", a_def("f", here, num(1), params=(("p", here),))))
        self.told(None, cage, o, extend("ex", params[0], a_def("f", here, val(name("o"), "k"), params=params[1:])))
        self.told(("kind", ("ex", "f")), cage, o, extend("ex", params[0], a_def("f", here, num(1))))
        self.told(None, cage, o, given("gi", INT, num(1), wants=params))
        self.told(None, cage, o, cls("C", vparams=(("v", TEXT), ("w", here))),
                  cls("D", vparams=(("o", TEXT), ("p", here)), parents=(parent("C", name("o"), name("p")),)))
        # A param does not stand in its own kind yet, nor in the uppers of the def.
        self.told(None, cage, o, cls("C", a_def("f", INT, name("o"), params=(("o", here),))))
        self.told(None, cage, o, cls("C", a_def("f", INT, ("stop", ""), params=params[:1], kparams=(
            kparam("B", "", here),))))
        self.told(("name", ("ex", "f")), cage, extend("ex", ("x", of("Cage")), a_def("f", INT, num(1), kparams=(
            kparam("B", "", part("x", "K")),))))
        self.main(("leaves", (1,)), let("o", num(1), val(new("C"), "v")), cage, obj("o", a_val("c", of("Cage"), ("stop", ""))),
                  cls("C", a_val("v", part("o", "c", "K"), ("stop", ""))))
        self.main(None, let("o", text(""), op("+", val(new("C"), "v"), num(1))), o, cls("C", a_val("v", here, num(1))))

    def test_twice(self):
        two = (("a", INT), ("a", INT))
        self.told(("name", ("C", "f")), cls("C", a_def("f", INT, num(1), params=two)))
        self.told(("name", ("C", "f")), cls("C", a_def("f", INT, params=two[:1], wants=two[:1])))
        self.told(("name", ("gi",)), given("gi", INT, num(1), wants=two))
        self.told(("name", ("ex",)), extend("ex", ("a", INT), wants=two[:1]))
        self.told(None, extend("ex", ("a", INT), a_def("f", INT, name("a"), params=two[:1])))
        self.main(("name", (0,)), then(("fun", two, num(1)), num(1)))
        self.main(("name", ()), ("match", num(1), ((("of", "Box", (("bind", "x"), ("is", "x", "Box"))), num(1)),)),
                  BOX)
        self.main(None, let("x", num(1), let("x", text("a"), op("join", name("x"), text("b")))))

    def test_supers(self):
        self.main(("name", ()), above("title"), *FISHES)
        self.told(("name", ("Eel", "age")), *FISHES, cls("Eel", a_val("age", INT, above("age")), parents=(
            parent("Cod"),)))
        self.told(("name", ("Eel", "teeth")), *FISHES, cls("Eel", a_def("teeth", INT, above("teeth"))))
        self.told(("name", ("ex", "f")), extend("ex", ("x", INT), a_def("f", INT, above("f"))))
        self.told(("name", ("D", 0)), BOX, cls("D", parents=(parent("Box", above("x"), kinds=(INT,)),)))

    def test_no_such_member(self):
        self.main(("name", ()), val(num(1), "age"))
        self.main(("name", ()), call(num(1), "age"))
        self.main(("name", ()), ("apply", num(1), ()))
        self.main(("name", (0,)), then(val(name("nemo"), "title"), num(1)), *FISHES)
        self.main(("name", (0,)), then(call(name("nemo"), "age"), num(1)), *FISHES)
        # An extension is not looked for where the class has a member of that name.
        ext = extend("ex", ("x", ANY), a_def("age", INT, num(1)), a_def("fins", INT, num(2)))
        self.main(("name", (0,)), then(call(name("nemo"), "age"), num(1)), ext, *FISHES)
        self.main(None, call(name("nemo"), "fins"), ext, *FISHES)


class ClassesTest(CheckTest):
    def test_class(self):
        self.told(("class", ("C",)), cls("C", parents=(parent("N"),)))
        self.told(("class", ("C", "v")), cls("C", a_val("v", of("N"))))
        self.told(("class", ("gi",)), given("gi", of("gi"), ("stop", "")))
        self.main(("class", ()), new("N"))
        self.main(("class", ()), new("Cod", more=("N",)), *FISHES)
        self.main(("class", (0,)), then(("summon", of("Box", of("nemo"))), num(1)), BOX)
        self.main(("class", ()), ("match", num(1), ((("is", "x", "N"), num(1)),)))
        self.main(("class", ()), ("match", num(1), ((("of", "Box", (("of", "n", ()),)), num(1)),)), BOX)

    def test_arguments(self):
        self.told(("arguments", ("C", "v")), BOX, cls("C", a_val("v", of("Box"))))
        self.told(("arguments", ("C", "v")), obj("nemo"), cls("C", a_val("v", of("nemo", INT))))
        self.told(("arguments", ("C",)), BOX, cls("C", parents=(parent("Box", num(1)),)))
        self.told(("arguments", ("C",)), BOX, cls("C", parents=(parent("Box", kinds=(INT,)),)))
        self.told(("arguments", ("C",)), trait("T"), cls("C", parents=(parent("T", num(1)),)))
        self.main(("arguments", ()), new("Box", kinds=(INT,)), BOX)
        self.main(("arguments", ()), new("Box", num(1)), BOX)
        self.main(("arguments", ()), call(name("o"), "f"), obj("o", a_def("f", INT, num(1), params=(("x", INT),))))
        self.main(("arguments", ()), call(name("o"), "f", kinds=(INT,)), obj("o", a_def("f", INT, num(1))))
        self.main(("arguments", ()), call(name("o"), "f", givens=(num(1),)), obj("o", a_def("f", INT, num(1))))
        self.main(("arguments", ()), ("apply", ("fun", (), num(1)), (num(1),)))
        self.told(("arguments", ("D", "f")), cls("C", a_def("f", INT, num(1))),
                  cls("D", a_def("f", INT, above("f", num(1))), parents=(parent("C"),)))

    def test_above(self):
        self.told(("above", ("C",)), cls("C", parents=(parent("C"),)))
        self.told(("above", ("T",)), cls("C"), trait("T", parents=(parent("C"),)))
        ring = (trait("T", a_def("f", INT), parents=(parent("U"),)), trait("U", parents=(parent("T"),)))
        self.told(("above", ("T",)), cls("C", a_def("f", INT, above("f")), parents=(parent("U"),)), *ring)
        self.told(("name", ("C", "f")), cls("C", a_def("f", INT, above("g")), parents=(parent("U"),)), *ring)
        self.told(("above", ("D",)), cls("C"), trait("T"), cls("D", parents=(parent("T"), parent("C"))))
        self.told(("above", ("D",)), trait("T"), cls("D", parents=(parent("T"), parent("T"))))
        self.main(("above", ()), new("Fish"), *FISHES)
        self.main(("above", ()), new("Cod", more=("Eel",)), cls("Eel"), *FISHES)
        self.main(("above", ()), new("Cod", more=("Loud", "Loud")), *FISHES)

    def test_above_and_sealed(self):
        s, t = trait("S", sealed=True), trait("T", parents=(parent("S"),))
        self.main(("above", (0,)), then(new("C", more=("S",)), num(1)), s, t, cls("C"))
        self.main(("above", (0,)), then(new("C", more=("T",)), num(1)), s, t, cls("C"))
        self.main(None, new("C", more=("T",)), trait("S"), t, cls("C"))
        self.told(("above", ("D",)), s, cls("C", vparams=(("v", INT),), parents=(parent("S"),)),
                  cls("D", parents=(parent("C", num(1)),)))
        self.told(("above", ("o",)), s, cls("C", vparams=(("v", INT),), parents=(parent("S"),)),
                  obj("o", parents=(parent("C", num(1)),)))
        self.told(None, s, cls("C", vparams=(("v", INT),), parents=(parent("S"),)),
                  main=new("C", num(1)))
        self.told(("above", ("C",)), cls("V", vparams=(("v", INT),)),
                  cls("C", parents=(parent("V", num(1)),), sealed=True))

    def test_a_class_above_with_two_kinds(self):
        box = trait("Box", kparams=PARAM_A)
        t, u = trait("T", parents=(parent("Box", kinds=(INT,)),)), trait("U", parents=(parent("Box", kinds=(TEXT,)),))
        self.told(("above", ("C",)), box, t, u, cls("C", parents=(parent("T"), parent("U"))))
        self.main(("above", ()), new("C", more=("T", "U")), box, t, u, cls("C"))
        self.main(("above", ()), new("C", more=(("Box", (TEXT,)), "T")), box, t, cls("C"))
        self.main(None, new("C", more=(("Box", (INT,)), "T")), box, t, cls("C"))
        p = trait("P", kparams=(kparam("A"), kparam("B")), parents=(parent("Q", kinds=(A,)), parent("R", kinds=(B,))))
        q, r = trait("Q", kparams=PARAM_A, parents=(parent("Box", kinds=(A,)),)), trait(
            "R", kparams=PARAM_A, parents=(parent("Box", kinds=(A,)),))
        self.told(("above", ("P",)), box, q, r, p)

    def test_order(self):
        t, u = trait("T"), trait("U")
        p, q = trait("P", parents=(parent("T"), parent("U"))), trait("Q", parents=(parent("U"), parent("T")))
        self.told(("order", ("R",)), t, u, p, q, trait("R", parents=(parent("P"), parent("Q"))))
        self.main(("order", ()), new("C", more=("P", "Q")), t, u, p, q, cls("C"))
        self.main(None, new("C", more=("P",)), t, u, p, q, cls("C"))

    def test_kind_of_parents(self):
        box = trait("Box", kparams=PARAM_A)
        self.told(("kind", ("C",)), box, cls("C", kparams=PARAM_A, parents=(parent("Box", kinds=(of("Box", A),)),)))
        self.told(("kind", ("C",)), box, obj("o", a_kind("K", ANY, INT)),
                  cls("C", parents=(parent("Box", kinds=(part("o", "K"),)),)))
        self.told(None, box, cls("C", parents=(parent("Box", kinds=(of("Box", INT),)),)))


class OverrideTest(CheckTest):
    def pair(self, wanted, far, near, **more):
        """What is told of a class with a member, below a trait with another one of that name."""
        fine = () if wanted else None
        told = None if fine is None else ("override", ("C", near[1]))
        self.told(told, *FISHES, trait("Cage", a_kind("K")), trait("T", far, **more),
                  cls("C", near, parents=(parent("T"),)))

    def test_forms_and_numbers(self):
        far = a_def("f", INT, params=(("x", INT),))
        self.pair(True, far, a_val("f", INT))
        self.pair(True, a_val("f", INT), lazy("f", INT, num(1)))
        self.pair(True, far, a_def("f", INT))
        self.pair(True, far, a_def("f", INT, params=(("x", INT), ("y", INT))))
        self.pair(True, far, a_def("f", INT, params=(("x", INT, True),)))
        self.pair(True, far, a_def("f", INT, params=(("x", INT),), wants=(("w", INT),)))
        self.pair(True, far, a_def("f", INT, params=(("x", INT),), kparams=PARAM_A))
        self.pair(False, far, a_def("f", INT, num(1), params=(("y", INT),)))

    def test_kinds_of_defs(self):
        far = a_def("f", of("Fish"), params=(("x", of("Fish")),), wants=(("w", COD),))
        same = {"params": (("y", of("Fish")),), "wants": (("v", COD),)}
        self.pair(False, far, a_def("f", COD, ("stop", ""), **same))
        self.pair(False, far, a_def("f", NONE, **same))
        self.pair(True, far, a_def("f", ANY, **same))
        self.pair(True, far, a_def("f", COD, params=(("x", ANY),), wants=(("w", COD),)))
        self.pair(True, far, a_def("f", COD, params=(("x", of("Fish")),), wants=(("w", of("Fish")),)))
        # Without a body over one with a body the results are the same.
        body = a_def("f", of("Fish"), ("stop", ""))
        self.pair(True, body, a_def("f", COD))
        self.pair(False, body, a_def("f", COD, ("stop", "")))
        self.pair(False, body, a_def("f", of("Fish")))

    def test_kind_parameters_of_defs(self):
        far = a_def("f", A, params=(("x", A),), kparams=(kparam("A", "", of("Fish")),))
        self.pair(False, far, a_def("f", B, name("y"), params=(("y", B),), kparams=(kparam("B", "", of("Fish")),)))
        self.pair(True, far, a_def("f", B, name("y"), params=(("y", B),), kparams=(kparam("B"),)))
        self.pair(True, far, a_def("f", of("Fish"), params=(("y", B),), kparams=(kparam("B", "", of("Fish")),)))

    def test_names_of_params_in_paths(self):
        far = a_def("f", part("a", "K"), params=(("a", of("Cage")), ("b", part("a", "K"))), wants=(
            ("w", part("a", "K")),))
        self.pair(False, far, a_def("f", part("c", "K"), name("d"), params=(
            ("c", of("Cage")), ("d", part("c", "K"))), wants=(("v", part("c", "K")),)))
        self.pair(False, far, a_def("f", part("b", "K"), name("a"), params=(
            ("b", of("Cage")), ("a", part("b", "K"))), wants=(("v", part("b", "K")),)))

    def test_a_def_parameter_of_the_name_of_a_class_parameter(self):
        t = trait("T", a_def("f", var("E"), params=(("x", A),), kparams=PARAM_A), kparams=(kparam("E"),))
        good = cls("C", a_def("f", A, ("stop", ""), params=(("x", B),), kparams=(kparam("B"),)), kparams=PARAM_A,
                   parents=(parent("T", kinds=(A,)),))
        bad = cls("C", a_def("f", B, ("stop", ""), params=(("x", B),), kparams=(kparam("B"),)), kparams=PARAM_A,
                  parents=(parent("T", kinds=(A,)),))
        self.told(None, t, good)
        self.told(("override", ("C", "f")), t, bad)

    def test_vals_lazies_and_givens(self):
        self.pair(False, a_val("v", of("Fish")), a_val("v", COD, new("Cod")))
        self.pair(False, a_val("v", of("Fish")), a_val("v", COD))
        self.pair(True, a_val("v", COD), a_val("v", of("Fish")))
        self.pair(True, a_val("v", INT, num(1)), a_val("v", INT, num(2)))
        self.pair(False, a_val("v", INT, num(1)), a_val("v", INT))
        self.pair(True, a_val("v", of("Fish"), new("Cod")), a_val("v", COD))
        self.pair(True, lazy("v", INT, num(1)), lazy("v", INT, num(1)))
        self.pair(False, own_given("v", of("Fish"), new("Cod")), own_given("v", COD, new("Cod")))
        self.pair(True, own_given("v", COD, new("Cod")), own_given("v", of("Fish"), new("Cod")))
        self.told(("override", ("D", "v")), cls("C", vparams=(("v", INT),)),
                  cls("D", vparams=(("v", INT),), parents=(parent("C", num(1)),)))
        self.told(None, trait("T", a_val("v", INT)), cls("D", vparams=(("v", INT),), parents=(parent("T"),)))

    def test_kind_members(self):
        self.pair(False, a_kind("K"), a_kind("K", of("Fish"), COD))
        self.pair(True, a_kind("K", of("Fish")), a_kind("K", ANY))
        self.pair(True, a_kind("K", of("Fish")), a_kind("K", of("Fish"), INT))
        self.pair(True, a_kind("K", ANY, INT), a_kind("K", ANY, TEXT))
        self.pair(False, a_kind("K", ANY, INT), a_kind("K", ANY, INT))
        self.pair(True, a_kind("K", ANY, of("Fish")), a_kind("K", COD))
        self.pair(False, a_kind("K", ANY, COD), a_kind("K", of("Fish")))
        self.told(("override", ("C", "K")), cls("C", a_kind("K", INT, TEXT)))

    def test_seen_with_the_parents_arguments(self):
        t = trait("T", a_def("f", A, params=(("x", A),)), kparams=PARAM_A)
        self.told(None, t, cls("C", a_def("f", INT, name("y"), params=(("y", INT),)), parents=(
            parent("T", kinds=(INT,)),)))
        self.told(("override", ("C", "f")), t, cls("C", a_def("f", INT, num(1), params=(("y", INT),)), parents=(
            parent("T", kinds=(TEXT,)),)))
        self.told(None, trait("P", a_def("f", INT, num(1))), trait("Q", a_def("f", TEXT, text(""))))

    def test_of_one_that_is_mixed(self):
        t, u = trait("T", a_def("f", INT, num(1))), trait("U", a_def("f", TEXT, text("")))
        self.told(("override", ("M", "f")), t, u, cls("C"), cls("M", parents=(parent("C"), parent("T"), parent("U"))))
        self.main(("override", (0,)), then(new("C", more=("T", "U")), num(1)), t, u, cls("C"))
        self.main(None, new("C", more=("T",)), t, u, cls("C"))

    def test_kinds_of_parts_that_a_body_brings(self):
        """A part of what a body brings into reach stands for a kind of its own."""
        cage = cls("Cage", a_kind("K", ANY, INT))
        t = trait("T", a_def("f", A, ("stop", "")), kparams=PARAM_A)
        u = cls("U", a_def("f", A, ("stop", "")), kparams=PARAM_A)
        def mixed(one, other):
            return let("c", new("Cage"), let("d", new("Cage"), new("U", kinds=(one,), more=(("T", (other,)),))))
        self.main(None, mixed(part("c", "K"), part("c", "K")), cage, t, u)
        self.main(("override", (1, 1)), mixed(part("c", "K"), part("d", "K")), cage, t, u)
        self.main(("override", (1, 1)), mixed(part("c", "K"), INT), cage, t, u)
        self.main(None, mixed(ANY, part("c", "K")), cage, t, u)
        self.main(("override", (1, 1)), mixed(INT, part("c", "K")), cage, t, u)


class RestTest(CheckTest):
    def test_lacking(self):
        self.told(("lacking", ("o",)), *FISHES, obj("o", parents=(parent("Fish"),)))
        self.main(("lacking", (0,)), then(new("Eel"), num(1)), cls("Eel", parents=(parent("Fish"),)), *FISHES)
        self.told(None, *FISHES, cls("Eel", parents=(parent("Fish"),)))
        # Of a new an override goes ahead; of an object what is lacking does.
        t, u = trait("T", a_def("f", INT)), trait("U", a_def("f", TEXT))
        self.main(("override", ()), new("C", more=("T", "U")), t, u, cls("C"))
        self.told(("lacking", ("o",)), t, u, obj("o", parents=(parent("T"), parent("U"))))

    def test_super(self):
        loud = trait("Odd", a_def("title", TEXT, op("join", text("a"), above("title"))), parents=(parent("Fish"),))
        fish, cod = FISHES[0], FISHES[1]
        self.told(None, fish, cod, loud)
        self.told(("super", ("Odd", "title", 1)), fish, cod, loud, cls("Eel", parents=(parent("Odd"),)))
        self.told(("super", ("Odd", "title", 1)), fish, cod, loud, obj("eel", parents=(parent("Odd"),)))
        self.told(("super", ("Odd", "title", 1)), fish, cod, loud, cls("Eel"), main=new("Eel", more=("Odd",)))
        self.told(None, fish, cod, loud, main=new("Cod", more=("Odd",)))

    def test_sign(self):
        def told(sign, where, *members, **more):
            wanted = None if where is None else ("sign", where)
            out = trait("Out", kparams=(kparam("A", "+"),))
            into = trait("In", kparams=(kparam("A", "-"),))
            both = trait("Both", kparams=PARAM_A)
            self.told(wanted, out, into, both, cls("C", *members, kparams=(kparam("A", sign),), **more))
        for member in (a_val("v", A), a_def("v", A), lazy("v", A, ("stop", "")), own_given("v", A, ("stop", "")),
                       a_kind("K", A), a_val("v", of("Out", A)), a_val("v", fun(INT, A)),
                       a_def("v", INT, params=(("x", fun(A, INT)),)), a_def("v", INT, params=(("x", of("In", A)),)),
                       a_val("v", mix(A, INT))):
            told("+", None, member)
            told("-", ("C", member[1]), member)
        for member in (a_def("v", INT, params=(("x", A),)), a_def("v", INT, wants=(("w", A),)), a_val("v", of("In", A)),
                       a_def("v", INT, kparams=(kparam("B", "", A),)), a_val("v", fun(A, INT))):
            told("-", None, member)
            told("+", ("C", member[1]), member)
        for member in (a_val("v", of("Both", A)), a_kind("K", ANY, A)):
            told("-", ("C", member[1]), member)
            told("+", ("C", member[1]), member)
            told("", None, member)
        told("-", ("C",), vparams=(("v", A),))
        told("+", None, vparams=(("v", A),))
        told("-", ("C",), parents=(parent("Out", kinds=(A,)),))
        told("-", None, parents=(parent("In", kinds=(A,)),))
        told("+", ("C",), parents=(parent("In", kinds=(A,)),))
        self.told(None, cls("C", kparams=(kparam("A", "-"), kparam("B", "+", A))))

    def test_upper(self):
        box = cls("Box", kparams=(kparam("A", "", of("Fish")),))
        self.told(None, *FISHES, box, cls("C", a_val("v", of("Box", COD))))
        self.told(("upper", ("C", "v")), *FISHES, box, cls("C", a_val("v", of("Box", INT))))
        self.told(("upper", ("C", "v")), *FISHES, box, cls("C", a_val("v", fun(of("Box", INT), INT))))
        self.told(("upper", ("C", "v")), *FISHES, box, cls("C", a_val("v", of("Box", A)), kparams=PARAM_A))
        self.told(None, *FISHES, box, cls("C", a_val("v", of("Box", A)), kparams=(kparam("A", "", COD),)))
        self.told(("upper", ("C",)), *FISHES, box, cls("C", kparams=(kparam("A", "", of("Box", INT)),)))
        self.told(("upper", ("C",)), *FISHES, box, cls("C", parents=(parent("Box", kinds=(INT,)),)))
        self.main(("upper", (0,)), then(new("Box", kinds=(INT,)), num(1)), *FISHES, box)
        self.main(("upper", (0,)), then(("summon", of("Box", INT)), num(1)), *FISHES, box)
        two = cls("Two", kparams=(kparam("A"), kparam("B", "", A)))
        self.told(None, two, cls("C", a_val("v", of("Two", ANY, INT))))
        self.told(("upper", ("C", "v")), two, cls("C", a_val("v", of("Two", INT, ANY))))
        o = obj("o", a_def("f", INT, num(1), kparams=(kparam("A", "", INT),)))
        self.main(("upper", (0,)), then(call(name("o"), "f", kinds=(TEXT,)), num(1)), o)
        self.main(None, call(name("o"), "f", kinds=(NONE,)), o)

    def test_path(self):
        cage = trait("Cage", a_kind("K"), a_val("x", INT), lazy("z", INT, num(1)))
        def in_def(*steps):
            return a_def("f", part(*steps), ("stop", ""), params=(("a", of("Cage")), ("b", of("Cage"), True)))
        self.told(None, cage, cls("C", in_def("a", "K")))
        for steps in (("b", "K"), ("a", "L"), ("a", "x", "K"), ("a", "y", "K"), ("a", "z", "K"), ("this", "K")):
            self.told(("path", ("C", "f")), cage, cls("C", in_def(*steps)))
        self.main(("path", (1,)), let("c", num(1), ("summon", part("c", "K"))))
        self.main(("path", (1,)), ("lazy", "c", of("Cage"), ("stop", ""), ("summon", part("c", "K"))), cage)
        self.told(("path", ("C", "v")), cls("C", a_val("v", part("this", "v", "K"))))

    def test_path_of_kind_members(self):
        cage = trait("Cage", a_kind("K"))
        self.told(None, trait("T", a_kind("K"), a_kind("L", part("this", "K"), part("this", "K"))))
        self.told(("path", ("T", "K")), trait("T", a_kind("K", part("this", "L")), a_kind("L")))
        self.told(("path", ("T", "K")), trait("T", a_kind("K", part("this", "K"))))
        self.told(("path", ("T", "L")), cage, trait("T", a_kind("L", ANY, part("this", "c", "K")), a_val("c", of("Cage"))))
        self.told(("path", ("T", "L")), obj("o", a_kind("K", ANY, INT)), trait("T", a_kind("L", ANY, part("o", "K"))))
        self.told(None, cage, trait("T", a_kind("L", part("this", "K")), parents=(parent("Cage"),)))
        self.told(None, obj("o", a_kind("K", ANY, INT)),
                  trait("T", kparams=(kparam("A", "", part("o", "K")),)))

    def test_round_kind(self):
        t = trait("T", a_kind("K"), a_kind("L", ANY, part("this", "K")))
        self.told(("round kind", ("U", "K")), t, trait("U", a_kind("K", ANY, part("this", "L")), parents=(parent("T"),)))
        u = trait("U", a_kind("K"), a_kind("L"), parents=())
        v = trait("V", a_kind("K"), a_kind("L", ANY, part("this", "K")), parents=(parent("U"),))
        w = trait("W", a_kind("L"), a_kind("K", ANY, part("this", "L")), parents=(parent("U"),))
        self.told(None, u, v, w)
        self.told(("round kind", ("C", "K")), u, v, w, cls("C", parents=(parent("V"), parent("W"))))
        self.main(("round kind", (0,)), then(new("C", more=("V", "W")), num(1)), u, v, w, cls("C"))
        d = cls("D", a_kind("K", ANY, A), kparams=PARAM_A)
        self.told(("round kind", ("E", "a")), d, trait("E", a_val("a", of("D", part("this", "b", "K"))),
                                                     a_val("b", of("D", part("this", "a", "K")))))

    def test_kind_and_none_found(self):
        self.told(("kind", ("C", "f")), cls("C", a_def("f", INT, text(""))))
        self.told(("kind", ("C", "f", 1)), cls("C", a_def("f", INT, ("if", ("truth", True), text(""), num(1)))))
        self.main(("kind", (0,)), ("if", num(1), num(1), num(1)))
        self.main(("none found", ()), ("if", ("truth", True), num(1), text("")))
        self.main(None, ("if", ("truth", True), num(1), ("stop", "")))
        self.main(("kind", (0,)), let("x", num(1), num(1), kind=TEXT))
        self.main(("kind", (1,)), call(name("tool"), "lots", text("")), *SHOWS)
        self.main(("none found", ()), call(name("tool"), "pick", num(1), text("")), *SHOWS)
        self.told(("kind", ("D", 0)), BOX, cls("D", parents=(parent("Box", text(""), kinds=(INT,)),)))

    def test_givens(self):
        self.main(("given", ()), ("summon", INT))
        self.main(("given", ()), call(name("tool"), "shown", text("")), *SHOWS)
        self.main(("given", ()), call(text(""), "told"), *SHOWS)
        two = (given("one", INT, num(1)), given("two", INT, num(2)))
        self.main(("ambiguous", (0,)), then(("summon", INT), num(1)), *two)
        loop = given("gi", of("Box", A), ("stop", ""), kparams=PARAM_A, wants=(("w", of("Box", of("Box", A))),))
        self.main(("endless", (0,)), then(("summon", of("Box", INT)), num(1)), BOX, loop)

    def test_ambiguous_extensions(self):
        ext = (extend("one", ("x", INT), a_def("f", INT, num(1))), extend("two", ("x", INT), a_def("f", INT, num(2))))
        self.main(("ambiguous", ()), call(num(1), "f"), *ext)
        far = extend("far", ("x", A), a_def("f", TEXT, text("")), kparams=PARAM_A)
        self.main(None, op("+", call(num(1), "f"), num(1)), ext[0], far)

    def test_leaves(self):
        self.main(("leaves", ()), let("c", new("Rack", new("IntCell")), val(name("c"), "more")),
                  trait("Cell", a_kind("Thing")), cls("IntCell", a_kind("Thing", ANY, INT), parents=(parent("Cell"),)),
                  cls("Rack", a_val("more", part("this", "cell", "Thing"), ("stop", "")), vparams=(
                      ("cell", of("Cell")),)))
        self.main(None, let("c", new("Cow"), call(name("keeper"), "best", name("c"))), *CAGES)
        animal = cls("Zoo", a_def("any1", of("Animal"), new("Cow")))
        best = call(name("keeper"), "best", call(new("Zoo"), "any1"))
        self.main(("leaves", (0,)), then(best, num(1)), animal, *CAGES)
        self.main(("leaves", (0,)), then(val(call(new("Zoo"), "any1"), "best"), num(1)), animal, *CAGES)
        self.main(None, val(new("Cow"), "best"), *CAGES)

    def test_pattern(self):
        def matched(e, pattern):
            return ("match", e, ((pattern, num(1)),))
        self.main(("pattern", ()), matched(num(1), ("lit", text(""))))
        self.main(None, matched(num(1), ("lit", num(5))))
        self.main(("pattern", ()), matched(num(1), ("is", "x", "Cod")), *FISHES)
        self.main(("pattern", ()), matched(name("nil"), ("of", "Cons", (ANY, ANY))), *LISTS)
        self.main(("pattern", ()), matched(new("Box", num(1), kinds=(INT,)), ("of", "Box", ())), BOX)
        self.main(None, matched(new("Box", num(1), kinds=(INT,)), ("of", "Box", (("bind", "x"),))), BOX)


class SequenceTest(CheckTest):
    def test_the_first_by_place(self):
        bad = a_def("f", INT, LOST)
        self.told(("name", ("C", "f")), cls("C", bad), cls("D", bad))
        self.told(("name", ("D", "f")), cls("D", bad), cls("C", bad))
        self.told(("name", ("C", "f")), cls("C", bad), main=LOST)
        self.told(("class", ("C",)), cls("C", bad, parents=(parent("N"),)))
        self.told(("name", ("C", 0)), BOX, cls("C", bad, parents=(parent("Box", LOST, kinds=(INT,)),)))
        self.told(("name", ("C", "g")), cls("C", a_def("g", INT, LOST), bad))
        self.main(("name", (0, 1)), then(op("+", num(1), LOST), LOST))
        self.main(("class", ()), let("x", LOST, num(1), kind=of("N")))

    def test_of_one_place_by_the_list(self):
        self.told(("name", ("C", "f")), cls("C", a_def("f", of("N"), LOST)))
        self.told(("name", ("C",)), cls("C", parents=(parent("N", kinds=(A,)),)))
        self.told(("class", ("C", "f")), BOX, cls("C", a_def("f", of("N", of("Box")), num(1))))
        self.told(("lacking", ("o",)), trait("Box", a_def("f", INT), kparams=(kparam("A", "", INT),)),
                  obj("o", parents=(parent("Box", kinds=(TEXT,)),)))

    def test_rounds(self):
        # Names of main go ahead of the paths of the first definition, and so on.
        path = cls("P", a_val("v", part("this", "K")))
        turn = (trait("T", a_kind("K"), a_kind("L", ANY, part("this", "K"))),
                trait("U", a_kind("K", ANY, part("this", "L")), parents=(parent("T"),)))
        over = cls("O", a_kind("K", INT, TEXT))
        body = cls("B", a_def("f", INT, text("")))
        every = (body, over) + turn + (path,)
        self.told(("name", ()), *every, main=LOST)
        self.told(("path", ("P", "v")), *every)
        self.told(("round kind", ("U", "K")), body, over, *turn)
        self.told(("override", ("O", "K")), body, over)
        self.told(("kind", ("B", "f")), body)

    def test_within_a_class(self):
        c = cls("C", a_def("b", of("Box", TEXT), new("Lack")), a_def("a", INT), a_def("c", INT), kparams=(
            kparam("A", "-"),), vparams=(("v", A),), parents=(parent("T"),))
        rest = (trait("T", a_def("a", TEXT), a_def("c", TEXT)), cls("Box", kparams=(kparam("A", "", INT),)),
                cls("Lack", a_def("x", INT)))
        self.told(("sign", ("C",)), c, *rest)
        c = c[:2] + ((),) + ((),) + c[4:]
        self.told(("override", ("C", "a")), c, *rest)
        c = c[:4] + ((),) + c[5:]
        self.told(("lacking", ("C", "b")), c, *rest)

    def test_finding_goes_from_the_left(self):
        self.main(("kind", (0, 1)), then(op("+", num(1), text("")), op("+", text(""), num(1))))
        self.main(("name", (1, 0)), op("+", num(1), op("+", val(num(1), "x"), text(""))))
        # What is called on, then the numbers, then args.
        o = obj("o", a_def("f", INT, num(1), params=(("x", INT),)))
        self.main(("name", (0, 0)), then(call(val(num(1), "x"), "f"), num(1)), o)
        self.main(("arguments", (0,)), then(call(name("o"), "f", op("+", text(""), num(1)), num(1)), num(1)), o)
        self.main(("kind", (0, 1, 0)), then(call(name("o"), "f", op("+", text(""), num(1))), num(1)), o)


if __name__ == "__main__":
    unittest.main()
