"""What is a program by its form: points 4 to 6."""

import unittest

from linearmix.atoms import WORDS
from linearmix.forms import is_program
from linearmix.grammar import CHOICES, FORM_SORTS, FORMS
from samples import (ANY, FULL, INT, TEXT, UNIT, a_class, a_def, a_given, a_trait,
                     an_extension, an_object, big_names, deep_kind, deep_pattern,
                     deep_tree, many_trees, small_names, with_definitions,
                     with_e_in_member, with_kind, with_main, with_member, with_pattern)


class FormTest(unittest.TestCase):
    def yes(self, thing):
        self.assertIs(is_program(thing), True, thing)

    def no(self, thing):
        self.assertIs(is_program(thing), False, thing)

    def yes_and_no(self, build, good, bad):
        """build gives a program for each of the good, and none for the bad."""
        for one in good:
            self.yes(build(one))
        for one in bad:
            self.no(build(one))


class AnyObjectTest(FormTest):
    def test_other_objects(self):
        for thing in (None, True, 0, "", "(() (unit))", b"", (), [], {}, set(), object(),
                      int, is_program, range(2), ((),), ((), UNIT, UNIT), [(), UNIT],
                      ([], UNIT), ((), ["unit"]), ((), "unit"), ((), None), (None, UNIT),
                      ((None,), UNIT), (((),), UNIT), ((), ()), (UNIT, ()), ((), (UNIT,)),
                      (("trait",), UNIT), ((["a"],), UNIT), ((), ({}, 1)), ((), (b"unit",))):
            self.no(thing)

    def test_deep_objects(self):
        for deep in ((), [], UNIT, ("show",), "a"):
            for _ in range(180):
                deep = (deep,)
            self.no(deep)
            self.no((deep, UNIT))
            self.no(with_main(deep))
            self.no(with_kind(deep))
        for _ in range(60):
            deep = (deep, deep)
        self.no(deep)
        self.no(with_main(("show", deep)))

    def test_the_full_program(self):
        self.yes(FULL)
        self.yes(with_main(UNIT))

    def test_no_list_stands_for_a_tuple_at_any_depth(self):
        for broken in with_lists(FULL):
            self.no(broken)

    def test_nothing_is_one_too_many_or_too_few_at_any_depth(self):
        for broken in with_more(FULL):
            self.no(broken)

    def test_none_stands_where_it_may_alone(self):
        places = set()
        for owner, at, program in with_nones(FULL):
            if is_program(program):
                places.add((owner[0], at))
        self.assertEqual(places, {("kind", 3), ("val", 3), ("def", 6), ("let", 2), ("call", 3),
                                  ("call", 5), ("super", 2), ("super", 4)})

    def test_by_the_name_of_the_interface(self):
        self.assertIs(is_program(thing=FULL), True)


def with_lists(tree):
    """The tree with each of its tuples made a list, one after the other."""
    yield list(tree)
    for at, part in enumerate(tree):
        if isinstance(part, tuple):
            for broken in with_lists(part):
                yield tree[:at] + (broken,) + tree[at + 1:]


def with_nones(tree):
    """(tuple, place, program) for each place of each tuple with None put there."""
    for at, part in enumerate(tree):
        yield tree, at, tree[:at] + (None,) + tree[at + 1:]
        if isinstance(part, tuple):
            for inner, place, broken in with_nones(part):
                yield inner, place, tree[:at] + (broken,) + tree[at + 1:]


def with_more(tree):
    """The tree with something that stands nowhere behind each of its tuples."""
    yield tree + (0.5,)
    for at, part in enumerate(tree):
        if isinstance(part, tuple):
            for broken in with_more(part):
                yield tree[:at] + (broken,) + tree[at + 1:]


class TablesTest(unittest.TestCase):
    def test_words_are_all_that_point_7_counts(self):
        heads = {head for _, head in FORMS}
        signs = {word for word in CHOICES["op word"] if word.isalpha()}
        more = {"yes", "no", "none0", "this", "super", "join", "then"}
        self.assertEqual(set(WORDS), heads | signs | more)

    def test_form_sorts_are_those_of_the_forms(self):
        self.assertEqual(set(FORM_SORTS), {sort for sort, _ in FORMS})


GOOD_SMALL = ("a", "z", "a1", "aB", "abcdefghijkl", "a23456789012", "thisx", "none1", "yess")
GOOD_BIG = ("A", "Z", "A1", "Ab", "Abcdefghijkl", "A23456789012", "This", "Any")
BAD_BOTH = ("", "1", "1a", "a b", " a", "a ", "a_", "_a", "a-", "\u00e4", "a\u00e4", "a\n",
            "+", "-0", "a\u0663", None, True, False, 0, 1, b"a", (), ("a",), ["a"], ("unit",))
BAD_SMALL = BAD_BOTH + GOOD_BIG + ("abcdefghijklm", "a234567890123") + tuple(WORDS)
BAD_BIG = BAD_BOTH + GOOD_SMALL + ("Abcdefghijklm",) + tuple(WORDS)


class NamesTest(FormTest):
    def test_small_names(self):
        for build in (
                lambda x: with_main(("name", x)),
                lambda x: with_main(("val", UNIT, x)),
                lambda x: with_main(("call", UNIT, x, (), (), ())),
                lambda x: with_main(("super", x, (), (), ())),
                lambda x: with_main(("fun", ((x, INT),), UNIT)),
                lambda x: with_main(("let", x, None, UNIT, UNIT)),
                lambda x: with_main(("lazy", x, INT, UNIT, UNIT)),
                lambda x: with_main(("given", x, INT, UNIT, UNIT)),
                lambda x: with_pattern(("bind", x)),
                lambda x: with_pattern(("is", x, "A")),
                lambda x: with_kind(("part", ("a", x), "A")),
                lambda x: with_kind(("part", ("this", "a", x), "A")),
                lambda x: with_definitions(an_object(x)),
                lambda x: with_definitions(a_given(x)),
                lambda x: with_definitions(an_extension(x)),
                lambda x: with_definitions(a_given(wants=((x, INT),))),
                lambda x: with_definitions(an_extension(on=(x, INT))),
                lambda x: with_definitions(an_extension(wants=((x, INT),))),
                lambda x: with_definitions(a_class(vparams=((x, INT),))),
                lambda x: with_member(("val", x, INT, None)),
                lambda x: with_member(("lazy", x, INT, UNIT)),
                lambda x: with_member(("given", x, INT, UNIT)),
                lambda x: with_member(a_def(x)),
                lambda x: with_member(a_def(params=((x, INT, True),))),
                lambda x: with_member(a_def(wants=((x, INT),))),
                lambda x: with_definitions(an_extension(members=(a_def(x),)))):
            self.yes_and_no(build, GOOD_SMALL, BAD_SMALL)

    def test_big_names(self):
        for build in (
                lambda x: with_kind(("var", x)),
                lambda x: with_kind(("part", ("this",), x)),
                lambda x: with_main(("new", ((x, (), ()),))),
                lambda x: with_main(("new", (("A", (), ()), (x, (), ())))),
                lambda x: with_definitions(a_class(x)),
                lambda x: with_definitions(a_trait(x)),
                lambda x: with_definitions(a_class("B12", parents=((x, (), ()),))),
                lambda x: with_definitions(an_object(parents=(("B", (), ()), (x, (), ())))),
                lambda x: with_definitions(a_class(kparams=((x, "", ANY),))),
                lambda x: with_definitions(a_given(kparams=((x, "", ANY),))),
                lambda x: with_definitions(an_extension(kparams=((x, "", ANY),))),
                lambda x: with_member(("kind", x, ANY, None)),
                lambda x: with_member(a_def(kparams=((x, "", ANY),)))):
            self.yes_and_no(build, GOOD_BIG, BAD_BIG)

    def test_classes_and_objects_in_kinds_and_patterns(self):
        bad = BAD_BOTH + ("abcdefghijklm", "Abcdefghijklm") + tuple(WORDS)
        for build in (
                lambda x: with_kind(("of", x, ())),
                lambda x: with_kind(("of", x, (INT,))),
                lambda x: with_pattern(("is", "a", x)),
                lambda x: with_pattern(("of", x, (ANY,)))):
            self.yes_and_no(build, GOOD_SMALL + GOOD_BIG, bad)

    def test_first_names_of_paths(self):
        bad = [name for name in BAD_SMALL if name != "this"]
        for build in (lambda x: with_kind(("part", (x,), "A")),
                      lambda x: with_kind(("part", (x, "a", "b"), "A"))):
            self.yes_and_no(build, GOOD_SMALL + ("this",), bad)


class KindsTest(FormTest):
    def test_sorts(self):
        self.yes_and_no(with_kind, (
            ("any",), ("none",), ("int",), ("truth",), ("text",), ("unit",),
            ("of", "A", ()), ("of", "nil", ()), ("of", "A", (INT, ANY)), ("var", "A"),
            ("part", ("this",), "A"), ("part", ("a",), "A"), ("part", ("a", "b", "c"), "A"),
            ("fun", (), INT), ("fun", (INT, ANY), ("fun", (), UNIT)),
            ("with", (INT, INT)), ("with", (INT, ("with", (ANY, TEXT)))),
        ), (
            "any", (), ("any", ()), ("any", INT), ("all",), (("any",),), ["any"], None, 1,
            ("of",), ("of", "A"), ("of", "A", None), ("of", "A", INT), ("of", "A", [INT]),
            ("of", "A", (), ()), ("of", ("A",), ()), ("var",), ("var", "a"), ("var", "A", ""),
            ("part", (), "A"), ("part", ("a", "b", "c", "d"), "A"), ("part", "a", "A"),
            ("part", ["a"], "A"), ("part", ("a", "this"), "A"), ("part", ("A",), "A"),
            ("part", ("a",), "a"), ("part", ("a",)), ("part", (("this",),), "A"),
            ("fun", INT, INT), ("fun", (), ()), ("fun", None, INT), ("fun", ()),
            ("fun", (), INT, INT), ("with", ()), ("with", (INT,)), ("with", INT, INT),
            ("with", [INT, INT]), ("with", None), ("with", (INT, UNIT, 1)), (True,), (0, 1),
        ))

    def test_at_most_six_kinds(self):
        for build in (
                lambda kinds: with_kind(("of", "A", kinds)),
                lambda kinds: with_kind(("fun", kinds, INT)),
                lambda kinds: with_kind(("with", kinds)),
                lambda kinds: with_main(("call", UNIT, "f", kinds, (), None)),
                lambda kinds: with_main(("super", "f", kinds, (), None)),
                lambda kinds: with_main(("new", (("A", kinds, ()),))),
                lambda kinds: with_main(("new", (("A", (), ()), ("B", kinds, ())))),
                lambda kinds: with_definitions(a_class(parents=(("B", kinds, ()),))),
                lambda kinds: with_definitions(a_trait(parents=(("B", kinds, ()),)))):
            self.yes_and_no(build, ((INT,) * 6, (INT,) * 2), ((INT,) * 7, INT, [INT, INT], "any"))

    def test_at_most_six_within_one_another(self):
        for build in (
                with_kind,
                lambda kind: with_main(("fun", (("a", kind),), UNIT)),
                lambda kind: with_main(("let", "a", kind, UNIT, UNIT)),
                lambda kind: with_main(("lazy", "a", kind, UNIT, UNIT)),
                lambda kind: with_main(("given", "a", kind, UNIT, UNIT)),
                lambda kind: with_main(("call", UNIT, "f", (INT, kind), (), None)),
                lambda kind: with_main(("super", "f", (kind,), (), None)),
                lambda kind: with_main(("new", (("A", (), ()), ("B", (kind,), ())))),
                lambda kind: with_main(("show", ("show", ("summon", kind)))),
                lambda kind: with_definitions(a_class(kparams=(("B", "", kind),))),
                lambda kind: with_definitions(a_class(vparams=(("b", kind),))),
                lambda kind: with_definitions(a_class(parents=(("B", (kind,), ()),))),
                lambda kind: with_definitions(a_given(wants=(("w", kind),))),
                lambda kind: with_definitions(a_given(kind=kind)),
                lambda kind: with_definitions(an_extension(on=("a", kind))),
                lambda kind: with_member(("kind", "B", kind, None)),
                lambda kind: with_member(("kind", "B", ANY, kind)),
                lambda kind: with_member(("val", "b", kind, None)),
                lambda kind: with_member(("lazy", "b", kind, UNIT)),
                lambda kind: with_member(("given", "b", kind, UNIT)),
                lambda kind: with_member(a_def(kparams=(("B", "", kind),))),
                lambda kind: with_member(a_def(params=(("b", kind, False),))),
                lambda kind: with_member(a_def(wants=(("b", kind),))),
                lambda kind: with_member(a_def(kind=kind))):
            self.yes_and_no(build, (deep_kind(1), deep_kind(6)), (deep_kind(7), deep_kind(30), ()))

    def test_depth_counts_through_each_sort(self):
        for wrap in (lambda kind: ("of", "A", (INT, kind)),
                     lambda kind: ("fun", (kind,), INT),
                     lambda kind: ("fun", (INT,), kind),
                     lambda kind: ("with", (INT, kind))):
            self.yes(with_kind(wrap(deep_kind(5))))
            self.no(with_kind(wrap(deep_kind(6))))

    def test_depth_is_not_added_up_side_by_side(self):
        self.yes(with_kind(("with", (deep_kind(5), deep_kind(5)))))


class TreesTest(FormTest):
    def test_sorts(self):
        self.yes_and_no(with_main, (
            ("int", 0), ("int", -5), ("int", 10 ** 59), ("text", ""), ("text", "a b"),
            ("truth", True), ("truth", False), ("unit",), ("name", "a"), ("this",),
            ("val", UNIT, "a"), ("call", UNIT, "a", None, (), None),
            ("call", UNIT, "a", (), (UNIT,), ()), ("call", UNIT, "a", (INT,), (), (UNIT,)),
            ("super", "a", None, (), None), ("super", "a", (INT,), (UNIT, UNIT), (UNIT,)),
            ("new", (("A", (), ()),)), ("new", (("A", (INT,), (UNIT,)), ("B", (INT,), ()))),
            ("fun", (), UNIT), ("fun", (("a", INT), ("a", INT)), UNIT),
            ("apply", UNIT, ()), ("apply", UNIT, (UNIT, UNIT)), ("if", UNIT, UNIT, UNIT),
            ("let", "a", None, UNIT, UNIT), ("let", "a", INT, UNIT, UNIT),
            ("lazy", "a", INT, UNIT, UNIT), ("given", "a", INT, UNIT, UNIT),
            ("match", UNIT, ((ANY, UNIT),)), ("summon", ANY), ("show", UNIT),
            ("then", UNIT, UNIT), ("stop", ""), ("stop", "a"),
        ) + tuple(("op", word, UNIT, UNIT) for word in CHOICES["op word"]), ())

    def test_what_is_none(self):
        self.yes_and_no(with_main, (), (
            ("int",), ("int", True), ("int", False), ("int", "1"), ("int", None), ("int", (1,)),
            ("int", 1, 2), ("text",), ("text", None), ("text", 1), ("text", b"a"), ("text", ()),
            ("truth",), ("truth", 1), ("truth", 0), ("truth", None), ("truth", "yes"),
            ("unit", ()), ("this", "a"), ("this", None), ("name",), ("name", "a", "b"),
            ("val", "a", "b"), ("val", UNIT), ("val", None, "a"), ("any",), ("none",),
            ("var", "A"), ("bind", "a"), ("lit", ("int", 1)), ("case", UNIT),
            ("call", UNIT, "a", None, None, None), ("call", UNIT, "a", None, ()),
            ("call", None, "a", None, (), None), ("call", UNIT, "a", (), UNIT, ()),
            ("call", UNIT, "a", (), (None,), ()), ("call", UNIT, "a", (), (), (None,)),
            ("call", UNIT, "a", (), (), (UNIT, None)),
            ("call", UNIT, "a", False, (), None), ("call", UNIT, "a", None, (), 0),
            ("call", UNIT, "a", (UNIT, 1), (), None), ("call", UNIT, "a", None, (INT,), None),
            ("super", "a", None, None, None), ("super", UNIT, "a", None, (), None),
            ("super", "a", None, ()), ("super", "a", (None,), (), None),
            ("new", ()), ("new", None), ("new", ("A", (), ())), ("new", (("A", None, ()),)),
            ("new", (("A", (), None),)), ("new", (("A", ()),)), ("new", (("A", (), (), ()),)),
            ("new", (("A", (), ()), ("B", (), (UNIT,)))), ("new", (("A", (), ()), ("B", (), None))),
            ("new", [("A", (), ())]), ("new", (["A", (), ()],)), ("new", (("A", (), [UNIT]),)),
            ("fun", None, UNIT), ("fun", (("a",),), UNIT), ("fun", (("a", None),), UNIT),
            ("fun", (("a", INT, False),), UNIT), ("fun", ("a", INT), UNIT), ("fun", ()),
            ("apply", UNIT, None), ("apply", UNIT), ("apply", UNIT, UNIT),
            ("if", UNIT, UNIT), ("if", UNIT, UNIT, None), ("if", UNIT, UNIT, UNIT, UNIT),
            ("let", "a", (), UNIT, UNIT), ("let", "a", None, None, UNIT), ("let", "a", INT, UNIT),
            ("lazy", "a", None, UNIT, UNIT), ("given", "a", None, UNIT, UNIT),
            ("match", UNIT, ()), ("match", UNIT, None), ("match", UNIT, (ANY, UNIT)),
            ("match", UNIT, ((ANY,),)), ("match", UNIT, ((UNIT, UNIT),)), ("match", UNIT),
            ("match", UNIT, ((ANY, UNIT, UNIT),)), ("match", UNIT, [(ANY, UNIT)]),
            ("summon", None), ("summon", ()), ("show",), ("show", None), ("show", UNIT, UNIT),
            ("then", UNIT), ("then", UNIT, UNIT, UNIT), ("op", "+", UNIT), ("op", UNIT, UNIT),
            ("op", "/", UNIT, UNIT), ("op", "then", UNIT, UNIT), ("op", "", UNIT, UNIT),
            ("op", None, UNIT, UNIT), ("op", ("+",), UNIT, UNIT), ("stop",), ("stop", None),
            ("stop", UNIT), ("trait",), ("", UNIT), (None,), (("unit",),), ("Unit",), "unit",
        ))

    def test_texts(self):
        good = ("", " ", "~", "'", "a" * 40, "()", "no", "-0", "\x20\x7e", "this")
        bad = ('"', 'a"', "\\", "a\\b", "\t", "a\t", "\n", "a\nb", "a" * 41, "\x7f", "\x1f",
               "\u00e4", "\r", 1, None, b"a", ("a",), True)
        for build in (lambda text: with_main(("text", text)),
                      lambda text: with_main(("stop", text)),
                      lambda text: with_e_in_member(("show", ("stop", text))),
                      lambda text: with_pattern(("lit", ("text", text)))):
            self.yes_and_no(build, good, bad)

    def test_at_most_six_args_and_twelve_givens(self):
        for build in (lambda args: ("call", UNIT, "f", None, args, None),
                      lambda args: ("super", "f", None, args, None),
                      lambda args: ("new", (("A", (), args),)),
                      lambda args: ("apply", UNIT, args)):
            self.yes(with_main(build((UNIT,) * 6)))
            self.no(with_main(build((UNIT,) * 7)))
        for build in (lambda givens: ("call", UNIT, "f", None, (), givens),
                      lambda givens: ("super", "f", None, (), givens)):
            self.yes(with_main(build((UNIT,) * 12)))
            self.no(with_main(build((UNIT,) * 13)))
        self.no(with_definitions(a_class(parents=(("B", (), (UNIT,) * 7),))))
        self.yes(with_definitions(a_class(parents=(("B", (), (UNIT,) * 6),))))

    def test_at_most_six_parts_params_and_eight_cases(self):
        names = big_names(7)
        self.yes(with_main(("new", tuple((name, (), ()) for name in names[:6]))))
        self.no(with_main(("new", tuple((name, (), ()) for name in names))))
        self.yes(with_main(("new", (("A", (), ()),) * 3)))
        self.yes(with_main(("fun", (("a", INT),) * 6, UNIT)))
        self.no(with_main(("fun", (("a", INT),) * 7, UNIT)))
        self.yes(with_main(("match", UNIT, ((ANY, UNIT),) * 8)))
        self.no(with_main(("match", UNIT, ((ANY, UNIT),) * 9)))

    def test_at_most_twenty_within_one_another(self):
        for build in (with_main, with_e_in_member,
                      lambda e: with_definitions(a_given(e=e)),
                      lambda e: with_member(a_def(e=e)),
                      lambda e: with_definitions(an_extension(members=(a_def(e=e),))),
                      lambda e: with_definitions(a_class(parents=(("B", (), (UNIT, e)),)))):
            self.yes_and_no(build, (deep_tree(20),), (deep_tree(21), deep_tree(150)))

    def test_depth_counts_through_each_sort(self):
        for wrap in (lambda e: ("val", e, "a"), lambda e: ("call", e, "a", None, (), None),
                     lambda e: ("call", UNIT, "a", None, (UNIT, e), None),
                     lambda e: ("call", UNIT, "a", None, (), (e,)),
                     lambda e: ("super", "a", None, (e,), None),
                     lambda e: ("super", "a", None, (), (UNIT, e)),
                     lambda e: ("new", (("A", (), (e,)),)), lambda e: ("fun", (), e),
                     lambda e: ("apply", e, ()), lambda e: ("apply", UNIT, (e,)),
                     lambda e: ("if", e, UNIT, UNIT), lambda e: ("if", UNIT, e, UNIT),
                     lambda e: ("if", UNIT, UNIT, e), lambda e: ("let", "a", None, e, UNIT),
                     lambda e: ("let", "a", None, UNIT, e), lambda e: ("lazy", "a", INT, e, UNIT),
                     lambda e: ("lazy", "a", INT, UNIT, e), lambda e: ("given", "a", INT, e, UNIT),
                     lambda e: ("given", "a", INT, UNIT, e), lambda e: ("match", e, ((ANY, UNIT),)),
                     lambda e: ("match", UNIT, ((ANY, UNIT), (ANY, e))), lambda e: ("show", e),
                     lambda e: ("then", e, UNIT), lambda e: ("then", UNIT, e),
                     lambda e: ("op", "+", e, UNIT), lambda e: ("op", "+", UNIT, e)):
            self.yes(with_main(wrap(deep_tree(19))))
            self.no(with_main(wrap(deep_tree(20))))

    def test_at_most_sixty_trees(self):
        for build in (with_main, with_e_in_member,
                      lambda e: with_definitions(a_given(e=e)),
                      lambda e: with_definitions(a_class(parents=(("B", (), (UNIT, e)),)))):
            self.yes_and_no(build, (many_trees(59), many_trees(60)), (many_trees(61),))

    def test_each_expression_has_its_own_sixty(self):
        full = many_trees(60)
        self.yes((with_e_in_member(full)[0] + (a_given(e=full),), full))
        self.yes(with_definitions(a_class(parents=(("B", (), (full, full, full)),))))
        self.no(with_main(("then", full, UNIT)))

    def test_patterns_count_among_the_sixty(self):
        cases = tuple((ANY, UNIT) for _ in range(8))
        self.yes(with_main(("match", many_trees(43), cases)))
        self.no(with_main(("match", many_trees(44), cases)))
        of = ("of", "A", (ANY,) * 6)
        self.yes(with_main(("match", many_trees(51), ((of, UNIT),))))
        self.no(with_main(("match", many_trees(52), ((of, UNIT),))))

    def test_literals_of_patterns_do_not_count(self):
        lit = ("lit", ("int", 1))
        self.yes(with_main(("match", many_trees(43), ((lit, UNIT),) * 8)))
        self.no(with_main(("match", many_trees(44), ((lit, UNIT),) * 8)))


class PatternsTest(FormTest):
    def test_sorts(self):
        self.yes_and_no(with_pattern, (
            ("any",), ("bind", "a"), ("lit", ("int", 1)), ("lit", ("text", "")),
            ("lit", ("truth", True)), ("is", "a", "A"), ("is", "a", "nil"), ("of", "A", ()),
            ("of", "nil", ()), ("of", "A", (ANY, ("bind", "a"), ("bind", "a"))),
        ), (
            "any", (), ("any", ANY), ("none",), ("unit",), ("bind",), ("bind", "A"),
            ("bind", "a", "b"), ("lit", ("unit",)), ("lit", 1), ("lit", ("int", True)),
            ("lit", ("truth", 1)), ("lit", ("name", "a")), ("lit", ("stop", "a")), ("lit",),
            ("lit", ("int", 1), ("int", 2)), ("lit", ("int",)), ("lit", ["int", 1]),
            ("is", "a"), ("is", "A", "a"), ("is", "a", "A", ()), ("is", "a", INT),
            ("of", "A"), ("of", "A", None), ("of", "A", ANY), ("of", "A", [ANY]),
            ("of", "A", (INT,)), ("of", "A", (), ()), ["any"], None, UNIT,
        ))

    def test_at_most_six_patterns(self):
        self.yes(with_pattern(("of", "A", (ANY,) * 6)))
        self.no(with_pattern(("of", "A", (ANY,) * 7)))
        self.yes(with_pattern(("of", "A", (("of", "A", (ANY,) * 6),))))
        self.no(with_pattern(("of", "A", (("of", "A", (ANY,) * 7),))))

    def test_depth_counts_from_the_match(self):
        self.yes(with_pattern(deep_pattern(19)))
        self.no(with_pattern(deep_pattern(20)))
        self.yes(with_main(("show", ("match", UNIT, ((deep_pattern(18), UNIT),)))))
        self.no(with_main(("show", ("match", UNIT, ((deep_pattern(19), UNIT),)))))

    def test_a_literal_is_no_further_depth(self):
        pattern = ("lit", ("int", 1))
        for _ in range(18):
            pattern = ("of", "A", (pattern,))
        self.yes(with_pattern(pattern))
        self.no(with_pattern(("of", "A", (pattern,))))


class DefinitionsTest(FormTest):
    def test_what_is_none(self):
        for one in (
                ("trait", "A", (), (), ()), ("trait", "A", (), (), (), 1),
                ("trait", "A", (), (), (), None), ("trait", "A", (), (), (), False, ()),
                ("trait", "A", None, (), (), False), ("trait", "A", (), None, (), False),
                ("class", "A", (), (), (), ()), ("class", "A", (), (), (), (), 0),
                ("class", "A", (), (), (), False), ("class", "A", (), [], (), (), False),
                ("object", "a", (), (), False), ("object", "a", ()), ("object", "a", (), None),
                ("given", "a", (), (), INT), ("given", "a", (), (), INT, None),
                ("given", "a", (), (), None, UNIT), ("given", "a", INT, UNIT),
                ("extend", "a", (), ("x", INT), ()), ("extend", "a", (), (), (), ()),
                ("extend", "a", (), "x", (), ()), ("extend", "a", (), ("x", INT, False), (), ()),
                ("extend", "a", (), (("x", INT),), (), ()), ("val", "a", INT, UNIT),
                ("kind", "A", ANY, None), ("def", "a", (), (), (), INT, UNIT), (), "trait"):
            self.no(with_definitions(one))

    def test_kparams(self):
        good = (("A", "", ANY),)
        bad = (("A", "", None), ("A", None, ANY), ("A", "", ANY, ()), ("A", ""), ["A", "", ANY],
               ("A", "*", ANY), ("A", "-0", ANY), ("A", (), ANY), ("A", False, ANY), ("A", ANY))
        for build in (lambda one: with_definitions(a_class("B", kparams=(one,))),
                      lambda one: with_definitions(a_trait("B", kparams=(one,))),
                      lambda one: with_definitions(a_given(kparams=(one,))),
                      lambda one: with_definitions(an_extension(kparams=(one,))),
                      lambda one: with_member(a_def(kparams=(one,)))):
            self.yes_and_no(build, good, bad)

    def test_signs_stand_in_classes_and_traits_alone(self):
        for sign in ("+", "-"):
            one = ("K", sign, ANY)
            self.yes(with_definitions(a_class(kparams=(one,))))
            self.yes(with_definitions(a_trait(kparams=(one,))))
            self.no(with_definitions(a_given(kparams=(one,))))
            self.no(with_definitions(an_extension(kparams=(one,))))
            self.no(with_member(a_def(kparams=(one,))))
            self.no(with_definitions(an_extension(members=(a_def(kparams=(one,)),))))

    def test_parents(self):
        for build in (lambda parents: with_definitions(a_class(parents=parents)),
                      lambda parents: with_definitions(a_trait(parents=parents)),
                      lambda parents: with_definitions(an_object(parents=parents))):
            self.yes_and_no(build, (
                (), (("B", (), ()),), (("B", (INT,), (UNIT,)), ("C", (INT,), ())),
                (("B", (), ()),) * 6, (("A", (), ()),),
            ), (
                (("B", (), ()),) * 7, (("B", (), ()), ("C", (), (UNIT,))), (("B", (), None),),
                (("B", None, ()),), (("b", (), ()),), (("B", ()),), ("B", (), ()), None,
                [("B", (), ())], (["B", (), ()],), (("B", [], ()),), (("B", (), []),),
            ))

    def test_members(self):
        self.yes_and_no(with_member, (
            ("kind", "K", ANY, None), ("kind", "K", ANY, INT), ("val", "a", INT, None),
            ("val", "a", INT, UNIT), ("lazy", "a", INT, UNIT), ("given", "a", INT, UNIT),
            a_def(), a_def(e=None), a_def(params=(("a", INT, True), ("b", INT, False))),
            a_def(params=(("a", INT, True), ("a", INT, False)), wants=(("a", INT), ("a", INT))),
        ), (
            ("kind", "k", ANY, None), ("kind", "K", None, None), ("kind", "K", ANY),
            ("kind", "K", None, ANY), ("val", "A", INT, None), ("val", "a", None, None),
            ("val", "a", INT), ("val", "a", None, UNIT), ("val", "a", INT, ()),
            ("lazy", "a", INT, None), ("lazy", "a", None, UNIT), ("given", "a", INT, None),
            ("given", "a", None, UNIT), ("given", "a", (), (), INT, UNIT), a_def(kind=None),
            a_def(e=()), a_def()[:-1], a_def(params=(("a", INT),)), a_def(params=None),
            a_def(params=(("a", INT, 1),)), a_def(params=(("a", INT, 0),)), a_def(wants=None),
            a_def(params=(("a", INT, None),)), a_def(params=(("a", None, True),)),
            a_def(wants=(("a", INT, False),)), a_def(wants=(("a", None),)), a_def(kparams=None),
            ("def", "f", (), (), INT, UNIT), ("trait", "A", (), (), (), False), (), None, "val",
        ))

    def test_members_of_extensions_are_defs_with_an_e(self):
        self.yes_and_no(lambda member: with_definitions(an_extension(members=(member,))), (
            a_def(), a_def(params=(("a", INT, True),), wants=(("a", INT),)),
        ), (
            a_def(e=None), ("kind", "K", ANY, None), ("val", "a", INT, UNIT),
            ("lazy", "a", INT, UNIT), ("given", "a", INT, UNIT), (), None,
        ))
        self.yes(with_definitions(an_extension(members=())))

    def test_sealed(self):
        for build in (lambda one: with_definitions(a_class(is_sealed=one)),
                      lambda one: with_definitions(a_trait(is_sealed=one))):
            self.yes_and_no(build, (True, False), (1, 0, None, "yes", ""))

    def test_at_most_six_params_of_each_sort(self):
        big = tuple((name, "", ANY) for name in big_names(7))
        small = tuple((name, INT) for name in small_names(7))
        params = tuple((name, INT, False) for name in small_names(7))
        for build, rows in (
                (lambda rows: with_definitions(a_class(kparams=rows)), big),
                (lambda rows: with_definitions(a_trait(kparams=rows)), big),
                (lambda rows: with_definitions(a_given(kparams=rows)), big),
                (lambda rows: with_definitions(an_extension(kparams=rows)), big),
                (lambda rows: with_member(a_def(kparams=rows)), big),
                (lambda rows: with_definitions(a_class(vparams=rows)), small),
                (lambda rows: with_definitions(a_given(wants=rows)), small),
                (lambda rows: with_definitions(an_extension(wants=rows)), small),
                (lambda rows: with_member(a_def(wants=rows)), small),
                (lambda rows: with_member(a_def(params=rows)), params)):
            self.yes(build(rows[:6]))
            self.no(build(rows))
            self.no(build(list(rows[:6])))

    def test_at_most_twelve_members(self):
        vals = tuple(("val", name, INT, None) for name in small_names(13))
        defs = tuple(a_def(name) for name in small_names(13))
        for build, rows in ((lambda rows: with_definitions(a_class(members=rows)), vals),
                            (lambda rows: with_definitions(a_trait(members=rows)), vals),
                            (lambda rows: with_definitions(an_object(members=rows)), vals),
                            (lambda rows: with_definitions(an_extension(members=rows)), defs)):
            self.yes(build(rows[:12]))
            self.no(build(rows))

    def test_at_most_twenty_definitions(self):
        objects = tuple(an_object(name) for name in small_names(21))
        self.yes((objects[:20], UNIT))
        self.no((objects, UNIT))


class UnlikeNamesTest(FormTest):
    def test_definitions(self):
        self.no(with_definitions(a_class("A"), a_trait("A")))
        self.no(with_definitions(a_class("A"), a_trait("B"), a_class("A")))
        self.no(with_definitions(an_object("a"), a_given("a")))
        self.no(with_definitions(an_extension("a"), an_object("a")))
        self.yes(with_definitions(a_class("A"), an_object("a"), a_trait("Aa")))

    def test_within_a_definition(self):
        two = (("K", "", ANY), ("K", "", ANY))
        for one in (a_class(kparams=two), a_trait(kparams=two), a_given(kparams=two),
                    an_extension(kparams=two), a_class(vparams=(("a", INT), ("a", INT))),
                    a_class(kparams=two[:1], members=(("kind", "K", ANY, None),)),
                    a_trait(kparams=two[:1], members=(("kind", "K", ANY, None),)),
                    a_class(vparams=(("a", INT),), members=(("val", "a", INT, None),)),
                    a_class(vparams=(("f", INT),), members=(a_def("f"),)),
                    a_class(members=(a_def("f"), ("lazy", "f", INT, UNIT))),
                    a_trait(members=(a_def("f"), a_def("g"), a_def("f"))),
                    a_trait(members=(("kind", "K", ANY, None), ("kind", "K", ANY, INT))),
                    an_object(members=(("given", "a", INT, UNIT), ("val", "a", INT, None))),
                    an_extension(members=(a_def("f"), a_def("f")))):
            self.no(with_definitions(one))

    def test_kparams_of_defs(self):
        one = (("K", "", ANY),)
        self.no(with_member(a_def(kparams=one * 2)))
        self.no(with_definitions(a_class(kparams=one, members=(a_def(kparams=one),))))
        self.no(with_definitions(a_trait(kparams=one, members=(a_def(kparams=one),))))
        self.no(with_definitions(an_extension(kparams=one, members=(a_def(kparams=one),))))
        self.no(with_definitions(a_class(
            kparams=(("L", "+", ANY), ("K", "", ANY)),
            members=(a_def("f"), a_def("g", kparams=(("M", "", ANY), ("K", "", ANY)))))))

    def test_where_names_may_be_the_same(self):
        one = (("K", "", ANY),)
        self.yes(with_definitions(
            a_class(kparams=one, members=(a_def("A".lower()),)),
            a_class("K", members=(a_def("f", kparams=one), a_def("g", kparams=one))),
            a_given(kparams=one, wants=(("g", INT), ("g", INT))),
            an_object("f", members=(a_def("f", params=(("f", INT, False), ("f", INT, True))),)),
            an_extension("x", kparams=one, on=("x", INT), wants=(("x", INT), ("x", INT)),
                         members=(a_def("x", params=(("x", INT, False),), wants=(("x", INT),)),))))
        self.yes(with_definitions(a_class(
            "K", kparams=one, vparams=(("k", INT),), members=(("kind", "L", ANY, None),))))
        self.yes(with_member(a_def(kparams=(("A", "", ANY),))))
        self.yes(with_definitions(a_class(
            members=(("kind", "K", ANY, None), a_def(kparams=one)))))
        self.yes(with_definitions(a_class(members=(a_def("a"),)), a_trait(members=(a_def("a"),))))
        self.yes(with_main(("new", (("A", (), ()), ("A", (), ())))))
        self.yes(with_pattern(("of", "A", (("bind", "a"), ("is", "a", "A")))))


if __name__ == "__main__":
    unittest.main()
