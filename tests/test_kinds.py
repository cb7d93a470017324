"""Kinds as they are seen, put into each other, and made plain: points 13 and 14."""

import unittest

from linearmix.errors import BadClass, BadForm, BadKind, BadPath, BadPlace, NoMember, NotLetBy
from linearmix.kinds import part_of, plain_kind, put_in, seen_from
from test_orders import NO_NAMES, NO_PROGRAMS, program
from worlds import (A, ANY, B, CAGES_PROGRAM, COD, FISHES, HERE, INT, NONE, PARAM_A, PATHS_PROGRAM, TEXT, UNIT,
                    a_def, a_kind, a_val, cls, extend, fun, given, kparam, lazy, mix, name, num, obj, of, part,
                    parent, trait, var)

NO_KINDS = (None, (), [], "int", 5, ("int", ()), ["int"], ("of", "Box"), ("of", "Box", []), ("var", "a"),
            ("part", ("a", "b", "c", "d"), "K"), ("part", (), "K"), ("part", ["this"], "K"), ("part", ("A",), "K"),
            ("part", ("this",), "k"), ("with", ((INT,),)), ("with", (INT,)), ("fun", INT, INT), ("nothing",),
            ("of", "Box", (of("Box", of("Box", of("Box", of("Box", of("Box", INT))))),)))
NO_PLACES = (None, (), [], 5, "main", ((),), ((), (), ()), ([], ()), ((), []), (("C", "f", "g"), ()), ((5,), ()),
             (("a b",), ()), ((), (("x",),)), ((), (("X", INT),)), ((), ((5, INT),)), ((), (("x", 5),)),
             ((), (["x", INT],)), (("this",), ()), ((), (("of", INT),)))
LOST = (FISHES, name("lost"))

# T above through several parents, with arguments put in.
VIEWS = program(
    *FISHES, trait("T", kparams=(kparam("A"), kparam("B"))),
    trait("U", kparams=(kparam("C"),), parents=(parent("T", kinds=(var("C"), INT)),)),
    trait("V", kparams=PARAM_A, parents=(parent("U", kinds=(A,)), parent("Fish"))),
    cls("W", parents=(parent("V", kinds=(of("Cod"),)),)))


class SeenFromTest(unittest.TestCase):
    def test_by_the_parents(self):
        self.assertEqual(seen_from(VIEWS, of("W"), "T"), of("T", COD, INT))
        self.assertEqual(seen_from(VIEWS, of("W"), "U"), of("U", COD))
        self.assertEqual(seen_from(VIEWS, of("W"), "W"), of("W"))
        self.assertEqual(seen_from(VIEWS, of("V", var("Z")), "T"), of("T", var("Z"), INT))
        self.assertEqual(seen_from(VIEWS, of("U", part("x", "K")), "T"), of("T", part("x", "K"), INT))
        self.assertEqual(seen_from(program=VIEWS, kind=of("V", TEXT), name="Fish"), of("Fish"))
        self.assertEqual(seen_from(VIEWS, of("nemo"), "Fish"), of("Fish"))
        self.assertEqual(seen_from(VIEWS, of("nemo"), "nemo"), of("nemo"))

    def test_put_in_all_at_once(self):
        swap = program(trait("T", kparams=(kparam("A"), kparam("B"))),
                       trait("S", kparams=(kparam("A"), kparam("B")), parents=(parent("T", kinds=(B, A)),)))
        self.assertEqual(seen_from(swap, of("S", B, A), "T"), of("T", A, B))
        self.assertEqual(seen_from(swap, of("S", INT, TEXT), "T"), of("T", TEXT, INT))

    def test_none(self):
        self.assertIsNone(seen_from(VIEWS, of("T", INT, INT), "U"))
        self.assertIsNone(seen_from(VIEWS, COD, "T"))
        for kind in (INT, ANY, NONE, var("A"), part("x", "K"), fun(COD, COD), mix(INT, TEXT)):
            self.assertIsNone(seen_from(VIEWS, kind, "Cod"))

    def test_of_withs_the_first_that_is_below(self):
        self.assertEqual(seen_from(VIEWS, mix(INT, of("U", TEXT), of("U", INT)), "T"), of("T", TEXT, INT))
        self.assertEqual(seen_from(VIEWS, mix(COD, mix(INT, of("V", UNIT))), "T"), of("T", UNIT, INT))
        self.assertEqual(seen_from(VIEWS, mix(mix(COD, of("nemo")), of("Pike")), "Pike"), of("Pike"))
        self.assertIsNone(seen_from(VIEWS, mix(COD, mix(INT, COD)), "T"))

    def test_errors_and_their_sequence(self):
        for thing in NO_KINDS + (of("Eel"), of("Cod", INT), of("T", INT), fun(of("Eel"), INT)):
            with self.assertRaises(BadKind):
                seen_from(VIEWS, thing, "Cod")
        for thing in NO_NAMES + ("Eel", "eel"):
            with self.assertRaises(BadClass):
                seen_from(VIEWS, COD, thing)
        with self.assertRaises(BadKind):
            seen_from(VIEWS, 5, 5)
        with self.assertRaises(BadClass):
            seen_from(VIEWS, of("Eel"), 5)
        with self.assertRaises(BadKind):
            seen_from(VIEWS, of("Eel"), "Eel")
        for thing in NO_PROGRAMS:
            with self.assertRaises(BadForm):
                seen_from(thing, 5, 5)
        with self.assertRaises(NotLetBy) as caught:
            seen_from(LOST, 5, 5)
        self.assertEqual(caught.exception.what, ("name", ()))


class PutInTest(unittest.TestCase):
    def test_kinds_for_kind_parameters_at_every_depth(self):
        kind = of("Box", A, fun(A, mix(B, part("this", "K"))), var("C"))
        self.assertEqual(put_in(kind, (("A", INT), ("B", TEXT)), None),
                         of("Box", INT, fun(INT, mix(TEXT, part("this", "K"))), var("C")))
        self.assertEqual(put_in(kind=A, pairs=(), path=None), A)
        self.assertEqual(put_in(INT, (("A", TEXT),), ("a",)), INT)

    def test_all_at_once(self):
        self.assertEqual(put_in(of("Box", A, B), (("A", B), ("B", A)), None), of("Box", B, A))
        self.assertEqual(put_in(of("Box", A, part("this", "K")), (("A", part("this", "L")),), ("x",)),
                         of("Box", part("this", "L"), part("x", "K")))
        self.assertEqual(put_in(A, (("A", of("Box", A)),), None), of("Box", A))

    def test_paths(self):
        self.assertEqual(put_in(part("this", "K"), (), ("a", "b", "c")), part("a", "b", "c", "K"))
        self.assertEqual(put_in(part("this", "a", "K"), (), ("this", "b")), part("this", "b", "a", "K"))
        self.assertEqual(put_in(part("x", "a", "b", "K"), (), ("a", "b", "c")), part("x", "a", "b", "K"))
        for path in (("a", "b", "c"), ("this", "b", "c")):
            with self.assertRaises(BadPath):
                put_in(part("this", "a", "K"), (), path)
        with self.assertRaises(BadPath):
            put_in(of("Box", part("this", "a", "b", "K")), (), ("a", "b"))

    def test_kinds_that_come_may_be_deep(self):
        deep = of("Box", of("Box", of("Box", of("Box", of("Box", A)))))
        told = put_in(deep, (("A", deep),), None)
        self.assertEqual(told, put_in(deep, (("A", deep),), ("x",)))
        self.assertEqual(str(told).count("Box"), 10)

    def test_errors(self):
        for thing in NO_KINDS:
            with self.assertRaises(BadKind):
                put_in(thing, 5, 5)
        for path in ((), ("A",), ["this"], ("a", "this"), ("a", "b", "c", "d"), 5):
            with self.assertRaises(BadPath):
                put_in(INT, (), path)


class PartOfTest(unittest.TestCase):
    def test_in_classes(self):
        animal, cow = (("Cow", "eat"), ()), (("Rack", "more"), ())
        self.assertEqual(part_of(CAGES_PROGRAM, animal, part("this", "Eats")), ("same", of("Hay")))
        self.assertEqual(part_of(PATHS_PROGRAM, cow, part("this", "cell", "Thing")), ("upper", ANY))
        self.assertEqual(part_of(program=CAGES_PROGRAM, place=(("keeper", "feed"), ()), kind=part("a", "Eats")),
                         ("upper", of("Food")))
        self.assertEqual(part_of(CAGES_PROGRAM, HERE, part("lion", "Eats")), ("same", of("Meat")))

    def test_with_lets(self):
        self.assertEqual(part_of(CAGES_PROGRAM, ((), (("c", of("Cow")),)), part("c", "Eats")), ("same", of("Hay")))
        self.assertEqual(part_of(PATHS_PROGRAM, ((), (("w", of("Wrap", TEXT)),)), part("w", "Own")),
                         ("same", of("Two", TEXT)))
        with self.assertRaises(NoMember):
            part_of(CAGES_PROGRAM, ((), (("m", mix(of("Hay"), INT)),)), part("m", "Eats"))
        # Of a with the first part that has it, of a part its upper.
        lets = (("m", mix(of("Hay"), of("Animal"), of("Cow"))),)
        self.assertEqual(part_of(CAGES_PROGRAM, ((), lets), part("m", "Eats")), ("upper", of("Food")))
        lets = (("m", mix(of("Cow"), of("Animal"))),)
        self.assertEqual(part_of(CAGES_PROGRAM, ((), lets), part("m", "Eats")), ("same", of("Hay")))

    def test_paths_of_two_and_of_three(self):
        self.assertEqual(part_of(PATHS_PROGRAM, HERE, part("rack", "inner", "cell", "Thing")), ("upper", ANY))
        self.assertEqual(part_of(PATHS_PROGRAM, ((), (("r", of("Rack")),)), part("r", "cell", "Thing")),
                         ("upper", ANY))

    def test_the_path_is_put_for_this(self):
        one = program(trait("T", a_kind("K"), a_kind("L", part("this", "K")),
                            a_kind("M", ANY, of("Box", part("this", "L")))),
                      cls("Box", kparams=PARAM_A),
                      cls("U", vparams=(("t", of("T")),)))
        place = ((), (("u", of("U")),))
        self.assertEqual(part_of(one, place, part("u", "t", "L")), ("upper", part("u", "t", "K")))
        self.assertEqual(part_of(one, place, part("u", "t", "M")), ("same", of("Box", part("u", "t", "L"))))
        self.assertEqual(plain_kind(one, place, part("u", "t", "M")), of("Box", part("u", "t", "L")))

    def test_of_kind_parameters_and_parts_their_uppers(self):
        one = program(trait("T", a_kind("K", ANY, INT)), trait("S", a_kind("J", of("T")), a_val("j", part("this", "J"))),
                      cls("C", a_def("f", INT, num(1), params=(("x", A),), kparams=(kparam("A", "", of("T")),))))
        self.assertEqual(part_of(one, (("C", "f"), ()), part("x", "K")), ("same", INT))
        self.assertEqual(part_of(one, ((), (("s", of("S")),)), part("s", "j", "K")), ("same", INT))
        self.assertEqual(plain_kind(one, ((), (("s", of("S")),)), part("s", "j", "K")), INT)

    def test_places(self):
        cage = trait("Cage", a_kind("K"))
        one = program(cage, cls("C", a_def("f", INT, num(1), params=(("p", of("Cage")), ("q", of("Cage"), True)),
                                           wants=(("w", of("Cage")),)), a_val("v", of("Cage"), ("stop", "")),
                                a_val("bare", of("Cage")), lazy("z", of("Cage"), ("stop", "")),
                                vparams=(("vp", of("Cage")),)),
                      obj("o", a_def("f", INT, num(1))),
                      given("gi", INT, num(1), wants=(("w", of("Cage")),)),
                      extend("ex", ("x", of("Cage")), a_def("f", INT, num(1), params=(("p", of("Cage")),)),
                             wants=(("w", of("Cage")),)))
        def told(place, *steps):
            return part_of(one, (place, ()), part(*steps))
        good = ((("C", "f"), ("p",)), (("C", "f"), ("w",)), (("C", "f"), ("this", "v")), (("C", "f"), ("this", "vp")),
                (("C", "f"), ("this", "bare")), (("C", "v"), ("this", "vp")), (("C", "z"), ("this", "v")),
                (("C",), ("vp",)), (("gi",), ("w",)), (("ex", "f"), ("x",)), (("ex", "f"), ("w",)), (("ex", "f"), ("p",)))
        for place, path in good:
            self.assertEqual(told(place, *path, "K"), ("upper", ANY), place)
        bad = ((("C", "f"), ("q",)), (("C", "f"), ("vp",)), (("C", "f"), ("this", "z")), (("C", "f"), ("this", "f")),
               (("C", "v"), ("p",)), (("C",), ("this", "v")), (("C",), ("this", "vp")), ((), ("this",)), ((), ("x",)),
               (("gi",), ("this",)), (("gi",), ("x",)), (("ex", "f"), ("this",)), (("ex", "f"), ("z",)))
        for place, path in bad:
            with self.assertRaises(BadPath):
                told(place, *path, "K")
            with self.assertRaises(BadKind):
                plain_kind(one, (place, ()), part(*path, "K"))
        with self.assertRaises(NoMember):
            told(("C", "f"), "p", "L")
        with self.assertRaises(NoMember):
            told(("o", "f"), "this", "K")
        for place in (("C", "bare"), ("C", "g"), ("Cage",), ("D",), ("gi", "w"), ("ex",), ("o", "z"), ("C", "K"),
                      ("f",)):
            with self.assertRaises(BadPlace):
                told(place, "p", "K")
        self.assertEqual(plain_kind(one, (("o",), ()), INT), INT)

    def test_lets_that_hide_one_another(self):
        lets = (("x", of("Cow")), ("y", part("x", "Eats")), ("x", of("lion")))
        self.assertEqual(part_of(CAGES_PROGRAM, ((), lets), part("x", "Eats")), ("same", of("Meat")))
        lets = (("lion", of("Animal")),)
        self.assertEqual(part_of(CAGES_PROGRAM, ((), lets), part("lion", "Eats")), ("upper", of("Food")))
        lets = (("lion", part("lion", "Eats")), ("z", INT))
        self.assertEqual(plain_kind(CAGES_PROGRAM, ((), lets), INT), INT)
        for lets in ((("x", part("x", "Eats")),), (("y", part("x", "Eats")), ("x", of("Cow"))),
                     (("x", of("Eel")),), (("x", A),), (("x", of("Cow", INT)),), (("x", part("this", "Eats")),),
                     (("x", of("Cow")), ("x", INT), ("y", part("x", "Eats")))):
            with self.assertRaises(BadPlace):
                plain_kind(CAGES_PROGRAM, ((), lets), INT)

    def test_errors_and_their_sequence(self):
        for thing in NO_KINDS + (INT, of("Cow"), A):
            with self.assertRaises(BadKind):
                part_of(CAGES_PROGRAM, HERE, thing)
        for thing in NO_PLACES:
            with self.assertRaises(BadPlace):
                part_of(CAGES_PROGRAM, thing, 5)
            with self.assertRaises(BadPlace):
                plain_kind(CAGES_PROGRAM, thing, 5)
        # A place that is none in the program comes behind a kind that is none by itself.
        for work in (part_of, plain_kind):
            with self.assertRaises(BadKind):
                work(CAGES_PROGRAM, (("Eel",), ()), 5)
            with self.assertRaises(BadPlace):
                work(CAGES_PROGRAM, (("Eel",), ()), part("x", "Eats"))
            with self.assertRaises(NotLetBy):
                work(LOST, 5, 5)
            for thing in NO_PROGRAMS:
                with self.assertRaises(BadForm):
                    work(thing, 5, 5)


class PlainKindTest(unittest.TestCase):
    def test_at_every_depth(self):
        place = ((), (("c", of("Cow")), ("a", of("Animal"))))
        eats = part("c", "Eats")
        self.assertEqual(plain_kind(CAGES_PROGRAM, place, fun(eats, mix(eats, part("a", "Eats")))),
                         fun(of("Hay"), mix(of("Hay"), part("a", "Eats"))))
        self.assertEqual(plain_kind(program=CAGES_PROGRAM, place=place, kind=INT), INT)

    def test_as_often_as_it_goes(self):
        one = program(cls("T", a_kind("K", ANY, A), kparams=PARAM_A), cls("Box", kparams=PARAM_A))
        place = ((), (("x", of("T", INT)), ("y", of("T", of("Box", part("x", "K"))))))
        self.assertEqual(part_of(one, place, part("y", "K")), ("same", of("Box", part("x", "K"))))
        self.assertEqual(plain_kind(one, place, part("y", "K")), of("Box", INT))

    def test_bad_kind(self):
        for thing in NO_KINDS + (A, of("Eel"), of("Cow", INT), part("x", "Eats"), part("this", "Eats"),
                                 part("lion", "Drinks"), part("lion", "best", "Eats"), part("keeper", "Eats")):
            with self.assertRaises(BadKind):
                plain_kind(CAGES_PROGRAM, HERE, thing)
        self.assertEqual(plain_kind(CAGES_PROGRAM, HERE, part("lion", "Eats")), of("Meat"))


if __name__ == "__main__":
    unittest.main()
