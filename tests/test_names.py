"""Names, sizes, renamed and moved definitions: point 8."""

import unittest

from linearmix.errors import BadForm, BadName, BadOrder, Clash, NoName
from linearmix.forms import is_program, moved, names_of, renamed, size_of
from samples import (ANY, FULL, INT, UNIT, a_class, a_def, a_given, a_trait, an_extension,
                     an_object, deep_tree, many_trees, with_definitions, with_main)

NO_PROGRAMS = (None, (), [], "(() (unit))", ((), ()), [(), UNIT], ((), ["unit"]),
               with_main(("int", True)), with_main(deep_tree(21)), with_definitions(a_class("a")))
BODY = ("then", ("name", "a"), ("val", ("call", ("super", "b", None, (), None), "c", None, (), None), "d"))


def everywhere(e):
    """Programs with the expression in each sort of body, and within each sort of tree."""
    yield with_main(e)
    yield with_definitions(an_object(members=(("val", "v", INT, e),)))
    yield with_definitions(an_object(members=(("lazy", "v", INT, e),)))
    yield with_definitions(an_object(members=(("given", "v", INT, e),)))
    yield with_definitions(an_object(members=(a_def(e=e),)))
    yield with_definitions(a_trait(members=(a_def("g"), a_def(e=e))))
    yield with_definitions(a_given(e=e))
    yield with_definitions(an_extension(members=(a_def(e=e),)))
    for args in ((e,), (UNIT, e)):
        parents = (("B", (), args),)
        yield with_definitions(a_class(parents=parents))
        yield with_definitions(a_trait(parents=parents))
        yield with_definitions(an_object(parents=parents))
    for tree in (("val", e, "v"), ("call", e, "v", None, (), None),
                 ("call", UNIT, "v", None, (UNIT, e), None), ("call", UNIT, "v", None, (), (e,)),
                 ("super", "v", None, (e,), None), ("super", "v", None, (), (UNIT, e)),
                 ("new", (("B", (), (e,)), ("C", (), ()))), ("fun", (("v", INT),), e),
                 ("apply", e, ()), ("apply", UNIT, (UNIT, e)), ("if", e, UNIT, UNIT),
                 ("if", UNIT, e, UNIT), ("if", UNIT, UNIT, e), ("let", "v", None, e, UNIT),
                 ("let", "v", INT, UNIT, e), ("lazy", "v", INT, e, UNIT),
                 ("lazy", "v", INT, UNIT, e), ("given", "v", INT, e, UNIT),
                 ("given", "v", INT, UNIT, e), ("match", e, ((ANY, UNIT),)),
                 ("match", UNIT, ((ANY, UNIT), (("bind", "v"), e))), ("show", e),
                 ("then", e, UNIT), ("then", UNIT, e), ("op", "+", e, UNIT), ("op", "+", UNIT, e)):
        yield with_main(tree)


class NamesOfTest(unittest.TestCase):
    def test_the_x_of_names_vals_calls_and_supers(self):
        self.assertEqual(names_of(with_main(UNIT)), [])
        self.assertEqual(names_of(with_main(BODY)), ["a", "b", "c", "d"])
        self.assertEqual(names_of(FULL),
                         ["a", "age", "c", "eat", "nemo", "p", "size", "w", "x", "y", "z"])

    def test_in_each_sort_of_place(self):
        for program in everywhere(("val", ("super", "s", None, (), None), "q")):
            self.assertEqual(set(names_of(program)) - {"v"}, {"q", "s"}, program)

    def test_ascending_and_once(self):
        e = ("then", ("name", "b"), ("then", ("name", "aB"), ("then", ("name", "b"), ("name", "aA1"))))
        self.assertEqual(names_of(with_main(e)), ["aA1", "aB", "b"])

    def test_no_other_names(self):
        e = ("let", "b", ("part", ("c",), "D"), ("fun", (("f", INT),), ("new", (("G", (), ()),))),
             ("match", UNIT, ((("bind", "h"), ("stop", "i")), (("is", "j", "k"), ("text", "l")))))
        self.assertEqual(names_of(with_main(e)), [])
        self.assertEqual(names_of(with_definitions(
            an_object("o", members=(("val", "v", INT, None), a_def(params=(("p", INT, True),)))))), [])

    def test_each_list_is_new(self):
        names_of(FULL).append("more")
        self.assertNotIn("more", names_of(FULL))
        self.assertIs(type(names_of(FULL)), list)

    def test_no_program(self):
        for thing in NO_PROGRAMS:
            with self.assertRaises(BadForm):
                names_of(thing)
        self.assertEqual(names_of(program=with_main(UNIT)), [])


class SizeOfTest(unittest.TestCase):
    def test_sizes(self):
        for program, size in ((with_main(UNIT), 1), (with_main(BODY), 5), (with_main(deep_tree(20)), 20),
                              (with_main(many_trees(60)), 60), (with_definitions(an_object()), 1)):
            self.assertEqual(size_of(program), size)

    def test_in_each_sort_of_place(self):
        for program in everywhere(("show", ("show", ("show", ("int", 5))))):
            plain = [other for other in everywhere(("int", 5))]
            at = [other for other in everywhere(("show", ("show", ("show", ("int", 5)))))].index(program)
            self.assertEqual(size_of(program), size_of(plain[at]) + 3)

    def test_patterns_and_their_literals_are_left_out(self):
        cases = ((("of", "A", (("lit", ("int", 1)), ("lit", ("text", "a")))), UNIT),
                 (("bind", "a"), UNIT), (("lit", ("truth", True)), UNIT))
        self.assertEqual(size_of(with_main(("match", UNIT, cases))), 5)

    def test_args_of_parents_are_counted(self):
        parents = (("B", (INT,), (UNIT, ("show", UNIT))), ("C", (), ()))
        self.assertEqual(size_of(with_definitions(a_class(parents=parents))), 4)
        self.assertEqual(size_of(with_definitions(an_object("o", parents), an_object("p", parents))), 7)

    def test_kinds_are_left_out(self):
        self.assertEqual(size_of(with_main(("summon", UNIT))), 1)
        self.assertEqual(size_of(with_main(("let", "a", UNIT, UNIT, UNIT))), 3)

    def test_the_full_program(self):
        self.assertEqual(size_of(FULL), 50)

    def test_no_program(self):
        for thing in NO_PROGRAMS:
            with self.assertRaises(BadForm):
                size_of(thing)
        self.assertEqual(size_of(program=with_main(UNIT)), 1)


class RenamedTest(unittest.TestCase):
    def same(self, program, name, other, wanted):
        self.assertTrue(is_program(program), program)
        self.assertEqual(renamed(program, name, other), wanted)


class RenamedErrorsTest(RenamedTest):
    program = with_definitions(a_class("Cod", vparams=(("size", INT),)), an_object("nemo"))

    def raises(self, error, *args):
        with self.assertRaises(error) as caught:
            renamed(*args)
        self.assertIs(type(caught.exception), error)

    def test_bad_form_is_the_first(self):
        for thing in NO_PROGRAMS:
            self.raises(BadForm, thing, "Cod", "Eel")
            self.raises(BadForm, thing, 5, 5)

    def test_no_name(self):
        for name in ("Eel", "size", "a", "", None, 5, True, ("Cod",), ["Cod"], {}, "int", "cod"):
            self.raises(NoName, self.program, name, "Eel")
            self.raises(NoName, self.program, name, "eel")

    def test_bad_name(self):
        for other in ("eel", "", "a b", "Abcdefghijklm", "1", "Ee_l", None, 5, True, ("Eel",), ["Eel"],
                      "int", "this", "\u00c4", "nemo", "size", b"Eel"):
            self.raises(BadName, self.program, "Cod", other)
        for other in ("Eel", "", "this", "none0", "unit", "yes", "abcdefghijklm", None, 0, "Cod"):
            self.raises(BadName, self.program, "nemo", other)

    def test_clash(self):
        self.raises(Clash, self.program, "Cod", "Cod")
        self.raises(Clash, self.program, "nemo", "nemo")
        self.raises(Clash, self.program, "nemo", "size")

    def test_the_sequence(self):
        self.raises(NoName, self.program, "Eel", "eel")
        self.raises(NoName, self.program, "Eel", "Cod")
        self.raises(BadName, self.program, "Eel", "this")
        self.raises(BadName, self.program, "Eel", 7)
        self.raises(NoName, self.program, "this", "this")
        self.raises(NoName, self.program, 5, 5)
        self.raises(BadName, self.program, "Cod", "size")

    def test_each_sort_of_name_clashes(self):
        for program in (
                with_main(("name", "z")), with_main(("val", UNIT, "z")),
                with_main(("call", UNIT, "z", None, (), None)),
                with_main(("super", "z", None, (), None)), with_main(("fun", (("z", INT),), UNIT)),
                with_main(("let", "z", None, UNIT, UNIT)), with_main(("lazy", "z", INT, UNIT, UNIT)),
                with_main(("given", "z", INT, UNIT, UNIT)),
                with_main(("match", UNIT, ((("of", "A", (("bind", "z"),)), UNIT),))),
                with_main(("match", UNIT, ((("is", "z", "A"), UNIT),))),
                with_main(("match", UNIT, ((("is", "y", "z"), UNIT),))),
                with_main(("match", UNIT, ((("of", "z", ()), UNIT),))),
                with_main(("summon", ("of", "z", ()))), with_main(("summon", ("part", ("z",), "A"))),
                with_main(("summon", ("fun", (("part", ("this", "z"), "A"),), INT))),
                with_definitions(an_object("z")), with_definitions(a_given("z")),
                with_definitions(an_extension("z")), with_definitions(a_given("y", wants=(("z", INT),))),
                with_definitions(an_extension("y", on=("z", INT))),
                with_definitions(an_extension("y", wants=(("z", INT),))),
                with_definitions(an_extension("y", members=(a_def("z"),))),
                with_definitions(a_class(vparams=(("z", INT),))),
                with_definitions(a_class(members=(("val", "z", INT, None),))),
                with_definitions(a_class(members=(("lazy", "z", INT, UNIT),))),
                with_definitions(a_class(members=(("given", "z", INT, UNIT),))),
                with_definitions(a_class(members=(a_def("z"),))),
                with_definitions(a_class(members=(a_def(params=(("z", INT, True),)),))),
                with_definitions(a_class(members=(a_def(wants=(("z", INT),)),)))):
            program = (program[0] + (an_object("nemo"),), program[1])
            self.assertTrue(is_program(program))
            self.raises(Clash, program, "nemo", "z")
            self.assertEqual(renamed(program, "nemo", "zz")[0][-1], an_object("zz"))

    def test_each_sort_of_big_name_clashes(self):
        for program in (
                with_main(("summon", ("var", "Z"))), with_main(("summon", ("of", "Z", ()))),
                with_main(("summon", ("part", ("this",), "Z"))), with_main(("new", (("Z", (), ()),))),
                with_main(("new", (("A", (), ()), ("Z", (), ())))),
                with_main(("match", UNIT, ((("is", "y", "Z"), UNIT),))),
                with_main(("match", UNIT, ((("of", "Z", ()), UNIT),))),
                with_definitions(a_class("Z")), with_definitions(a_trait("Z")),
                with_definitions(a_class(kparams=(("Z", "+", ANY),))),
                with_definitions(a_trait(kparams=(("A", "", ("var", "Z")),))),
                with_definitions(a_given(kparams=(("Z", "", ANY),))),
                with_definitions(an_extension(kparams=(("Z", "", ANY),))),
                with_definitions(a_class(members=(a_def(kparams=(("Z", "", ANY),)),))),
                with_definitions(a_class(members=(("kind", "Z", ANY, None),))),
                with_definitions(a_class(parents=(("Z", (), ()),))),
                with_definitions(an_object(parents=(("B", (("var", "Z"),), ()),)))):
            program = (program[0] + (a_class("Cod"),), program[1])
            self.assertTrue(is_program(program))
            self.raises(Clash, program, "Cod", "Z")
            self.assertEqual(renamed(program, "Cod", "Zz")[0][-1], a_class("Zz"))

    def test_texts_do_not_clash(self):
        program = with_definitions(an_object("nemo", members=(
            ("val", "v", INT, ("text", "eel")), ("val", "w", INT, ("stop", "eel")))))
        self.assertEqual(renamed(program, "nemo", "eel")[0][0][1], "eel")

    def test_by_the_names_of_the_interface(self):
        self.assertEqual(renamed(program=with_definitions(an_object("a")), name="a", other="b"),
                         with_definitions(an_object("b")))


class RenamedClassTest(RenamedTest):
    def in_each_place(self, old, new):
        """The places that mean a class of that name, with the new name in the second."""
        def both(build):
            return build(old), build(new)
        yield both(lambda x: with_main(("summon", ("of", x, (INT,)))))
        yield both(lambda x: with_main(("summon", ("fun", (("of", x, ()),), ("with", (INT, ("of", x, ())))))))
        yield both(lambda x: with_main(("summon", ("of", "Bass", (("of", x, (("of", x, ()),)),)))))
        yield both(lambda x: with_main(("new", ((x, (("of", x, ()),), (("new", ((x, (), ()),)),)), (x, (), ())))))
        yield both(lambda x: with_main(("match", UNIT, (
            (("of", x, (("of", x, ()), ("is", "a", x))), ("summon", ("of", x, ()))),))))
        yield both(lambda x: with_main(("let", "a", ("of", x, ()), UNIT, UNIT)))
        yield both(lambda x: with_main(("lazy", "a", ("of", x, ()), UNIT, UNIT)))
        yield both(lambda x: with_main(("given", "a", ("of", x, ()), UNIT, UNIT)))
        yield both(lambda x: with_main(("fun", (("a", ("of", x, ())),), UNIT)))
        yield both(lambda x: with_main(("call", UNIT, "a", (("of", x, ()),), (), None)))
        yield both(lambda x: with_main(("super", "a", (("of", x, ()),), (), None)))
        yield both(lambda x: with_definitions(a_class(
            kparams=(("K", "", ("of", x, ())),), vparams=(("a", ("of", x, ())),),
            parents=((x, (("of", x, ()),), (("new", ((x, (), ()),)),)), (x, (), ())))))
        yield both(lambda x: with_definitions(a_trait(
            kparams=(("K", "", ("of", x, ())),), parents=((x, (("of", x, ()),), ()),))))
        yield both(lambda x: with_definitions(an_object(parents=(("B", (), ()), (x, (("of", x, ()),), ())))))
        yield both(lambda x: with_definitions(an_object(members=(
            ("kind", "K", ("of", x, ()), ("of", x, ())), ("val", "a", ("of", x, ()), None),
            ("lazy", "b", ("of", x, ()), ("summon", ("of", x, ()))), ("given", "c", ("of", x, ()), UNIT),
            ("def", "f", (("L", "", ("of", x, ())),), (("p", ("of", x, ()), True),),
             (("w", ("of", x, ())),), ("of", x, ()), ("new", ((x, (), ()),)))))))
        yield both(lambda x: with_definitions(a_given(
            kparams=(("K", "", ("of", x, ())),), wants=(("w", ("of", x, ())),), kind=("of", x, ()),
            e=("new", ((x, (), ()),)))))
        yield both(lambda x: with_definitions(an_extension(
            kparams=(("K", "", ("of", x, ())),), on=("a", ("of", x, ())), wants=(("w", ("of", x, ())),),
            members=(a_def(kind=("of", x, ()), e=("summon", ("of", x, ()))),))))

    def test_in_each_place_that_means_it(self):
        for build in (a_class, a_trait):
            for before, after in self.in_each_place("Cod", "Eel"):
                self.same((before[0] + (build("Cod"),), before[1]), "Cod", "Eel",
                          (after[0] + (build("Eel"),), after[1]))

    def test_other_classes_stay(self):
        for before, _ in self.in_each_place("Fish", "Fish"):
            before = (before[0] + (a_class("Pike"),), before[1])
            self.same(before, "Pike", "Eel", (before[0][:-1] + (a_class("Eel"),), before[1]))

    def test_kind_parameters_and_kind_members_stay(self):
        own = ("var", "Cod")
        for one in (
                a_class("B", kparams=(("Cod", "", ANY), ("K", "", own)), vparams=(("a", own),),
                        parents=(("C", (own,), ()),), members=(("val", "v", own, None),)),
                a_given(kparams=(("Cod", "", ANY),), wants=(("w", own),), kind=own),
                an_extension(kparams=(("Cod", "", ANY),), on=("a", own), members=(a_def(kind=own),)),
                an_object(members=(a_def(kparams=(("Cod", "", ANY),), params=(("p", own, False),),
                                         kind=own, e=("summon", own)),)),
                an_object(members=(("kind", "Cod", ANY, INT),
                                   ("val", "v", ("part", ("this",), "Cod"), None))),
                a_class("B", kparams=(("Cod", "", ANY),), members=(("kind", "K", own, own),))):
            self.same(with_definitions(a_class("Cod"), one), "Cod", "Eel",
                      with_definitions(a_class("Eel"), one))

    def test_a_kind_parameter_does_not_hide_a_class(self):
        def build(x):
            return with_definitions(a_class(x, kparams=(("Cod", "", ("of", x, ())),), members=(
                ("val", "v", ("fun", (("var", "Cod"),), ("of", x, (("var", "Cod"),))), None),)))
        self.same(build("Cod"), "Cod", "Eel", build("Eel"))

    def test_texts_stay(self):
        program = with_definitions(a_class("Cod", members=(("val", "v", INT, ("text", "Cod")),)))
        self.same(program, "Cod", "Eel",
                  with_definitions(a_class("Eel", members=(("val", "v", INT, ("text", "Cod")),))))


class RenamedGivenTest(RenamedTest):
    """Nothing in a program means a given or an extension by its name."""

    def test_only_the_definition(self):
        rest = (an_object("o", members=(("val", "g", INT, ("val", ("this",), "g")),)),
                a_class("A", vparams=(("g", INT),), parents=(("B", (), (("name", "g"),)),)),
                a_given("h", wants=(("g", INT),), kind=("part", ("g",), "K"), e=("name", "g")))
        main = ("let", "g", ("of", "g", ()), ("name", "g"),
                ("match", ("call", UNIT, "g", None, (), None), ((("is", "g", "g"), ("name", "g")),)))
        for build in (a_given, an_extension):
            self.same(((build("g"),) + rest, main), "g", "k", ((build("k"),) + rest, main))

    def test_within_itself_too(self):
        one = a_given("g", wants=(("g", INT),), e=("given", "g", INT, ("name", "g"), ("name", "g")))
        self.same(with_definitions(one), "g", "k", with_definitions(("given", "k") + one[2:]))
        one = an_extension("g", on=("g", INT), members=(a_def("g", e=("name", "g")),))
        self.same(with_definitions(one), "g", "k", with_definitions(("extend", "k") + one[2:]))


def path_kind(x):
    return ("part", (x, "v"), "K")


class RenamedObjectTest(RenamedTest):
    """x stands for the object named o, o itself for something else."""

    def same_but_x(self, build):
        self.same(with_object(build("o"), "o"), "o", "k", with_object(build("k"), "k"))

    def test_in_each_sort_of_place(self):
        for before, after in zip(everywhere(("name", "q")), everywhere(("name", "k"))):
            self.same((before[0] + (an_object("q"),), before[1]), "q", "k",
                      (after[0] + (an_object("k"),), after[1]))

    def test_names_kinds_and_patterns(self):
        self.same_but_x(lambda x: ((), ("name", x)))
        self.same_but_x(lambda x: ((), ("summon", ("of", x, ()))))
        self.same_but_x(lambda x: ((), ("summon", ("fun", (path_kind(x),), ("part", (x,), "K")))))
        self.same_but_x(lambda x: ((), ("match", ("name", x), (
            (("of", x, ()), ("name", x)), (("is", "a", x), UNIT), (("of", "A", (("of", x, ()),)), UNIT)))))

    def test_within_itself(self):
        self.same(with_definitions(an_object("o", members=(("val", "a", INT, ("name", "o")),))), "o", "k",
                  with_definitions(an_object("k", members=(("val", "a", INT, ("name", "k")),))))

    def test_members_and_paths_behind_the_first_name_stay(self):
        self.same_but_x(lambda x: ((), ("val", ("name", x), "o")))
        self.same_but_x(lambda x: ((), ("call", ("name", x), "o", None, (("name", x),), None)))
        self.same_but_x(lambda x: ((), ("super", "o", None, (("name", x),), None)))
        self.same_but_x(lambda x: ((), ("summon", ("part", (x, "o", "o"), "K"))))
        self.same_but_x(lambda x: ((), ("summon", ("part", ("this", "o"), "K"))))
        for member in (("val", "o", INT, None), ("lazy", "o", INT, UNIT), ("given", "o", INT, UNIT),
                       a_def("o")):
            self.same_but_x(lambda x: ((a_class(members=(member, ("val", "p", INT, ("name", x)))),), UNIT))

    def test_lets(self):
        for word in ("let", "lazy", "given"):
            self.same_but_x(lambda x: ((), (word, "o", path_kind(x), ("name", x), (
                "then", ("name", "o"), ("summon", path_kind("o"))))))
            self.same_but_x(lambda x: ((), (word, "p", path_kind(x), ("name", x), ("name", x))))
            self.same_but_x(lambda x: ((), ("then", (word, "o", INT, UNIT, ("name", "o")), ("name", x))))
            self.same_but_x(lambda x: ((), (word, "o", INT, UNIT, (
                "let", "p", path_kind("o"), ("name", "o"), ("let", "o", None, ("name", "o"), UNIT)))))

    def test_a_let_hides_no_kind_of_the_object(self):
        self.same_but_x(lambda x: ((), ("let", "o", None, UNIT, ("match", ("name", "o"), (
            (("of", x, ()), ("summon", ("of", x, ()))), (("is", "o", x), ("name", "o")))))))

    def test_funs(self):
        self.same_but_x(lambda x: ((), ("fun", (("p", INT), ("o", INT)), ("name", "o"))))
        self.same_but_x(lambda x: ((), ("fun", (("p", path_kind(x)),), ("name", x))))
        self.same_but_x(lambda x: ((), ("fun", (("o", INT), ("p", path_kind(x))), ("name", "o"))))
        self.same_but_x(lambda x: ((), ("apply", ("fun", (("o", path_kind(x)),), ("name", "o")),
                                        (("name", x),))))

    def test_patterns(self):
        self.same_but_x(lambda x: ((), ("match", ("name", x), (
            (("bind", "o"), ("name", "o")), (("any",), ("name", x)), (("is", "o", "A"), ("name", "o")),
            (("of", "A", (("any",), ("of", "B", (("bind", "o"),)))), ("summon", path_kind("o"))),
            (("lit", ("text", "o")), ("name", x))))))

    def test_vparams_are_in_reach_in_args_of_parents_alone(self):
        self.same_but_x(lambda x: ((a_class(
            kparams=(("K", "", path_kind(x)),), vparams=(("o", INT), ("p", path_kind(x))),
            parents=(("B", (path_kind(x),), (("name", "o"), ("summon", path_kind("o")))),
                     ("C", (path_kind(x),), ())),
            members=(("val", "v", path_kind(x), ("name", x)), a_def(e=("name", x)),
                     ("kind", "L", path_kind(x), path_kind(x)))),), UNIT))
        self.same_but_x(lambda x: ((a_class(
            vparams=(("p", INT),), parents=(("B", (), (("name", x), ("name", "p"))),)),), UNIT))
        for build in (a_trait, an_object):
            self.same_but_x(lambda x: ((build("t" if build is an_object else "T", parents=(
                ("B", (path_kind(x),), (("name", x), ("summon", path_kind(x)))),)),), UNIT))

    def test_params_and_wants_of_defs(self):
        def in_def(x, **parts):
            return ((a_class(members=(a_def(**parts), a_def("h", e=("name", x)))),), UNIT)
        here, there = path_kind("o"), ("name", "o")
        self.same_but_x(lambda x: in_def(
            x, kparams=(("K", "", path_kind(x)),), params=(("p", path_kind(x), False),),
            wants=(("w", path_kind(x)),), kind=path_kind(x), e=("name", x)))
        for by_name in (True, False):
            self.same_but_x(lambda x: in_def(
                x, kparams=(("K", "", path_kind(x)),),
                params=(("p", path_kind(x), by_name), ("o", path_kind(x), by_name), ("q", here, False)),
                wants=(("w", here),), kind=here, e=there))
        self.same_but_x(lambda x: in_def(
            x, kparams=(("K", "", path_kind(x)),), params=(("p", path_kind(x), False),),
            wants=(("w", path_kind(x)), ("o", path_kind(x)), ("z", here)), kind=here, e=there))

    def test_wants_of_givens(self):
        here, there = path_kind("o"), ("name", "o")
        self.same_but_x(lambda x: ((a_given(
            kparams=(("K", "", path_kind(x)),), wants=(("w", path_kind(x)), ("o", path_kind(x)), ("z", here)),
            kind=path_kind(x), e=there),), UNIT))
        self.same_but_x(lambda x: ((a_given(
            wants=(("w", path_kind(x)),), kind=path_kind(x), e=("name", x)),), UNIT))

    def test_extensions(self):
        here, there = path_kind("o"), ("name", "o")
        self.same_but_x(lambda x: ((an_extension(
            kparams=(("K", "", path_kind(x)),), on=("o", path_kind(x)), wants=(("w", here),),
            members=(a_def(kparams=(("L", "", path_kind(x)),), params=(("p", here, False),),
                           wants=(("z", here),), kind=here, e=there),)),), UNIT))
        self.same_but_x(lambda x: ((an_extension(
            on=("a", path_kind(x)), wants=(("w", path_kind(x)), ("o", path_kind(x)), ("z", here)),
            members=(a_def(kparams=(("L", "", path_kind(x)),), kind=here, e=there),
                     a_def("o", e=there))),), UNIT))
        self.same_but_x(lambda x: ((an_extension(
            on=("a", path_kind(x)), wants=(("w", path_kind(x)),),
            members=(a_def(params=(("o", path_kind(x), False),), e=there),
                     a_def("o", kind=path_kind(x), e=("name", x)))),), UNIT))

    def test_params_and_wants_of_defs_of_extensions(self):
        here, there = path_kind("o"), ("name", "o")
        self.same_but_x(lambda x: ((an_extension(members=(
            a_def(params=(("o", path_kind(x), False), ("p", here, False)), wants=(("w", here),),
                  kind=here, e=there), a_def("g", kind=path_kind(x), e=("name", x)))),), UNIT))
        self.same_but_x(lambda x: ((an_extension(members=(
            a_def(params=(("p", path_kind(x), False),), wants=(("o", path_kind(x)), ("w", here)),
                  kind=here, e=there), a_def("g", kind=path_kind(x), e=("name", x)))),), UNIT))

    def test_members_of_the_same_name_do_not_hide(self):
        self.same_but_x(lambda x: ((an_object("p", members=(
            ("val", "o", path_kind(x), ("name", x)), a_def("f", e=("then", ("name", x),
                                                                   ("val", ("this",), "o"))))),), UNIT))

    def test_the_sequence_of_definitions_is_nothing_to_it(self):
        program = (FULL[0], FULL[1])
        back = tuple(reversed(range(6)))
        self.assertEqual(renamed(moved(program, back), "nemo", "dory"),
                         moved(renamed(program, "nemo", "dory"), back))


def with_object(parts, name):
    """The program of the parts, (definitions, main), and an object of the name."""
    definitions, main = parts
    return ((an_object(name),) + definitions, main)


class RenamedFullTest(RenamedTest):
    def test_there_and_back(self):
        for definition in FULL[0]:
            name = definition[1]
            other = "Eel" if name[0].isupper() else "eel"
            there = renamed(FULL, name, other)
            self.assertNotEqual(there, FULL)
            self.assertTrue(is_program(there))
            self.assertEqual(renamed(there, other, name), FULL)


class MovedTest(unittest.TestCase):
    definitions = (a_class("A"), an_object("b"), a_given("c"))
    program = (definitions, ("name", "b"))

    def test_moved(self):
        a, b, c = self.definitions
        for numbers, wanted in (((0, 1, 2), (a, b, c)), ((1, 2, 0), (b, c, a)), ((2, 0, 1), (c, a, b)),
                                ((2, 1, 0), (c, b, a)), ((0, 2, 1), (a, c, b))):
            self.assertEqual(moved(self.program, numbers), (wanted, ("name", "b")))
        self.assertEqual(moved(with_main(UNIT), ()), with_main(UNIT))
        self.assertEqual(moved(program=self.program, numbers=(1, 2, 0)), ((b, c, a), ("name", "b")))

    def test_orders_that_are_none(self):
        for numbers in ((), (0, 1), (0, 1, 2, 3), (0, 0, 1), (1, 2, 3), (0, 1, -1), [0, 1, 2], None, 5,
                        (0, True, 2), (False, 1, 2), ("0", "1", "2"), (0, 1, None), (0, 1, (2,)), "012",
                        {0, 1, 2}, range(3), (0, 1, 2.0), ((0, 1, 2),), (0, [1], 2), (-3, -2, -1)):
            with self.assertRaises(BadOrder):
                moved(self.program, numbers)
        for numbers in ((0,), None, [], (None,)):
            with self.assertRaises(BadOrder):
                moved(with_main(UNIT), numbers)

    def test_bad_form_is_the_first(self):
        for thing in NO_PROGRAMS:
            for numbers in ((), None, (0,)):
                with self.assertRaises(BadForm):
                    moved(thing, numbers)


if __name__ == "__main__":
    unittest.main()
