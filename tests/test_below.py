"""Which kinds are below which: points 15 and 16."""

import unittest

from linearmix.below import (below_holds, below_paper, bottom_of, first_gap, freest_sign, is_below, same_kind,
                             top_of)
from linearmix.errors import BadClass, BadForm, BadKind, BadPlace, NoParameter, NotLetBy
from test_kinds import LOST, NO_KINDS, NO_PLACES
from test_orders import NO_NAMES, NO_PROGRAMS, program
from worlds import (A, ANY, B, CAGES_PROGRAM, COD, FISH, FISHES, HERE, INT, NONE, PARAM_A, TEXT, TRUTH, UNIT, a_def,
                    a_kind, a_val, cls, fun, kparam, lazy, mix, num, of, own_given, parent, part, trait, var)

# Out, In and Both of one kind parameter with each sign; Sub is below them.
WORLD = program(
    *FISHES, trait("Out", kparams=(kparam("A", "+"),)), trait("In", kparams=(kparam("A", "-"),)),
    trait("Both", kparams=PARAM_A),
    trait("Sub", kparams=PARAM_A, parents=(parent("Out", kinds=(A,)), parent("In", kinds=(A,)),
                                           parent("Both", kinds=(A,)))),
    trait("Cage", a_kind("K"), a_kind("L", FISH), a_kind("M", ANY, of("Out", part("this", "L"))),
          a_kind("N", part("this", "L"))),
    cls("FishCage", a_kind("K", ANY, COD), a_kind("L", FISH, COD), a_kind("N", COD, COD), parents=(parent("Cage"),)),
    cls("Gen", a_def("f", INT, num(1), params=(("c", of("Cage")), ("g", of("FishCage"))),
                     kparams=(kparam("B", "", A), kparam("C", "", part("this", "v", "L")))), a_val("v", of("Cage")),
        kparams=(kparam("A", "", FISH),)))
DEF = (("Gen", "f"), ())


class BelowTest(unittest.TestCase):
    def pair(self, wanted, one, other, place=HERE):
        """Looks at all that is told of two kinds."""
        self.assertIs(is_below(WORLD, place, one, other), wanted)
        paper = below_paper(WORLD, place, one, other)
        self.assertIs(paper is not None, wanted)
        self.assertIs(first_gap(WORLD, place, one, other) is None, wanted)
        if wanted:
            self.assertIs(below_holds(WORLD, place, one, other, paper), True)

    def test_any_none_and_equal(self):
        for kind in (ANY, NONE, INT, COD, of("Both", INT), fun(INT), mix(INT, TEXT)):
            self.pair(True, kind, ANY)
            self.pair(True, NONE, kind)
            self.pair(True, kind, kind)
        for kind in (INT, TEXT, TRUTH, UNIT, COD, fun(INT), mix(INT, COD)):
            self.pair(False, ANY, kind)
            self.pair(False, kind, NONE)
        self.pair(False, INT, TEXT)
        self.pair(False, COD, INT)

    def test_withs(self):
        self.pair(True, COD, mix(FISH, ANY))
        self.pair(False, FISH, mix(FISH, COD))
        self.pair(True, mix(INT, COD), FISH)
        self.pair(False, mix(INT, TEXT), FISH)
        self.pair(True, mix(COD, INT), mix(INT, FISH))
        self.pair(True, mix(mix(INT, COD), TEXT), mix(mix(FISH, TEXT), INT))
        self.pair(True, of("nemo"), mix(of("Loud"), of("Big"), COD))

    def test_funs(self):
        self.pair(True, fun(FISH, COD), fun(COD, FISH))
        self.pair(False, fun(COD, COD), fun(FISH, FISH))
        self.pair(False, fun(FISH, FISH), fun(COD, COD))
        self.pair(False, fun(INT), fun(INT, INT))
        self.pair(True, fun(COD), fun(ANY))
        self.pair(True, fun(fun(COD, INT), INT), fun(fun(FISH, INT), INT))

    def test_classes_and_signs(self):
        self.pair(True, COD, FISH)
        self.pair(False, FISH, COD)
        for name, down, up in (("Out", True, False), ("In", False, True), ("Both", False, False)):
            self.pair(down, of(name, COD), of(name, FISH))
            self.pair(up, of(name, FISH), of(name, COD))
            self.pair(down, of("Sub", COD), of(name, FISH))
            self.pair(up, of("Sub", FISH), of(name, COD))
            self.pair(True, of("Sub", COD), of(name, COD))
        self.pair(False, of("Sub", COD), of("Sub", FISH))
        self.pair(True, of("Out", of("In", FISH)), of("Out", of("In", COD)))
        self.pair(True, of("Both", mix(COD, FISH)), of("Both", COD))
        self.pair(True, of("Both", COD), of("Both", mix(COD, FISH)))

    def test_uppers(self):
        self.pair(True, A, FISH, DEF)
        self.pair(True, B, A, DEF)
        self.pair(True, B, FISH, DEF)
        self.pair(False, A, B, DEF)
        self.pair(False, A, COD, DEF)
        self.pair(True, var("C"), FISH, DEF)
        self.pair(True, var("C"), part("this", "v", "L"), DEF)
        self.pair(True, part("c", "L"), FISH, DEF)
        self.pair(False, part("c", "K"), FISH, DEF)
        self.pair(True, part("c", "N"), part("c", "L"), DEF)
        self.pair(False, part("c", "L"), part("this", "v", "L"), DEF)
        self.pair(True, of("Out", B), of("Out", FISH), DEF)

    def test_kinds_that_are_spelled_otherwise(self):
        place = ((), (("g", of("FishCage")), ("c", of("Cage"))))
        for one, other in ((part("g", "L"), COD), (of("Both", part("g", "K")), of("Both", COD)),
                           (part("g", "M"), of("Out", part("g", "K"))), (fun(part("g", "K")), fun(COD)),
                           (part("c", "M"), of("Out", part("c", "L")))):
            self.assertIs(same_kind(WORLD, place, one, other), True)
            self.pair(True, one, other, place)
            self.pair(True, other, one, place)
        self.pair(True, part("c", "M"), of("Out", FISH), place)
        self.pair(True, part("g", "N"), FISH, place)
        self.assertIs(same_kind(WORLD, HERE, mix(COD, FISH), COD), True)
        self.assertIs(same_kind(WORLD, HERE, FISH, COD), False)
        self.assertIs(same_kind(program=WORLD, place=HERE, kind=INT, other=INT), True)

    def test_uppers_in_a_ring_end(self):
        one = program(trait("T", a_kind("K"), a_kind("L", part("this", "K"))),
                      trait("U", a_kind("K", part("this", "L")), parents=(parent("T"),)),
                      cls("C", a_def("f", INT, num(1), params=(("u", of("U")),))))
        place = (("C", "f"), ())
        self.assertIs(is_below(one, place, part("u", "K"), INT), False)
        self.assertIs(is_below(one, place, part("u", "K"), part("u", "L")), True)
        self.assertIsNone(below_paper(one, place, part("u", "K"), INT))
        self.assertEqual(first_gap(one, place, part("u", "K"), INT),
                         [(part("u", "K"), INT), (part("u", "L"), INT), (part("u", "K"), INT)])


class TopTest(unittest.TestCase):
    def test_top_and_bottom(self):
        self.assertEqual(top_of(WORLD, HERE, (COD, FISH, of("Pike"))), FISH)
        self.assertEqual(bottom_of(WORLD, HERE, (COD, FISH, of("Pike"))), of("Pike"))
        self.assertIsNone(top_of(WORLD, HERE, (INT, TEXT)))
        self.assertIsNone(bottom_of(WORLD, HERE, (of("Loud"), of("Big"))))
        self.assertEqual(top_of(program=WORLD, place=HERE, kinds=(NONE,)), NONE)
        self.assertEqual(top_of(WORLD, HERE, (INT, ANY, TEXT)), ANY)

    def test_the_first_as_handed_in(self):
        place = ((), (("g", of("FishCage")),))
        self.assertEqual(top_of(WORLD, place, (part("g", "K"), COD)), part("g", "K"))
        self.assertEqual(top_of(WORLD, place, (COD, part("g", "K"))), COD)
        self.assertEqual(bottom_of(WORLD, place, (FISH, part("g", "K"), COD)), part("g", "K"))

    def test_bad_kinds(self):
        for work in (top_of, bottom_of):
            for thing in NO_KINDS + ((INT, 5), [INT], (INT, of("Eel")), (A,), INT):
                with self.assertRaises(BadKind):
                    work(WORLD, HERE, thing)


class GapTest(unittest.TestCase):
    def gap(self, one, other, *rest, place=HERE):
        self.assertEqual(first_gap(WORLD, place, one, other), [(one, other)] + list(rest))

    def test_the_documents_example(self):
        one = program(trait("Fish"), trait("Box", a_def("get", A), kparams=(kparam("A", "+"),)))
        self.assertIs(is_below(one, HERE, of("Box", FISH), of("Box", ANY)), True)
        self.assertEqual(first_gap(one, HERE, of("Box", ANY), of("Box", FISH)),
                         [(of("Box", ANY), of("Box", FISH)), (ANY, FISH)])

    def test_gaps(self):
        self.gap(INT, TEXT)
        self.gap(FISH, COD)
        self.gap(ANY, COD)
        self.gap(of("Out", FISH), of("Out", COD), (FISH, COD))
        self.gap(of("In", COD), of("In", FISH), (FISH, COD))
        self.gap(of("Both", COD), of("Both", FISH), (FISH, COD))
        self.gap(of("Both", FISH), of("Both", COD), (FISH, COD))
        self.gap(of("Sub", FISH), of("Out", COD), (FISH, COD))
        self.gap(fun(COD, INT), fun(FISH, TEXT), (FISH, COD))
        self.gap(fun(FISH, INT), fun(COD, TEXT), (INT, TEXT))
        self.gap(fun(INT), fun(INT, INT))
        self.gap(FISH, mix(FISH, COD, INT), (FISH, COD))
        self.gap(mix(FISH, INT), TEXT, (INT, TEXT))
        self.gap(mix(FISH, INT), mix(FISH, COD), (mix(FISH, INT), COD), (INT, COD))
        self.gap(A, COD, (FISH, COD), place=DEF)
        self.gap(B, INT, (A, INT), (FISH, INT), place=DEF)
        self.gap(part("c", "N"), INT, (part("c", "L"), INT), (FISH, INT), place=DEF)
        self.assertIsNone(first_gap(program=WORLD, place=HERE, kind=COD, other=FISH))

    def test_as_plain_kinds(self):
        place = ((), (("g", of("FishCage")),))
        self.assertEqual(first_gap(WORLD, place, of("Out", part("g", "K")), of("Out", INT)),
                         [(of("Out", COD), of("Out", INT)), (COD, INT)])

    def test_each_list_is_new(self):
        first_gap(WORLD, HERE, INT, TEXT).clear()
        self.gap(INT, TEXT)


class PaperTest(unittest.TestCase):
    def right(self, one, other, word, *papers, place=HERE):
        paper = (one, other, word, papers)
        self.assertIs(below_holds(WORLD, place, one, other, paper), True)
        return paper

    def wrong(self, one, other, thing, place=HERE):
        self.assertIs(below_holds(WORLD, place, one, other, thing), False, thing)

    def test_each_word(self):
        down = self.right(COD, FISH, "of")
        self.right(COD, ANY, "any")
        self.right(NONE, COD, "none")
        self.right(COD, COD, "equal")
        self.right(COD, COD, "of")
        every = self.right(COD, ANY, "any")
        self.right(COD, mix(FISH, ANY), "each", down, every)
        self.right(mix(INT, COD), FISH, "part", down)
        self.right(fun(FISH, COD), fun(COD, FISH), "fun", down, down)
        self.right(of("Out", COD), of("Out", FISH), "of", down)
        self.right(of("In", FISH), of("In", COD), "of", down)
        same = (COD, COD, "equal", ())
        self.right(of("Both", COD), of("Both", COD), "of", same, same)
        self.right(A, FISH, "upper", (FISH, FISH, "equal", ()), place=DEF)
        self.right(part("c", "L"), FISH, "upper", (FISH, FISH, "equal", ()), place=DEF)

    def test_aliases(self):
        place = ((), (("g", of("FishCage")),))
        kind = part("g", "K")
        plain = (COD, FISH, "of", ())
        self.right(kind, FISH, "alias", plain, place=place)
        self.right(FISH, FISH, "equal", place=place)
        self.right(of("Out", kind), of("Out", FISH), "alias", (of("Out", COD), of("Out", FISH), "of", (plain,)),
                   place=place)
        self.right(of("Out", kind), of("Out", FISH), "of", (kind, FISH, "alias", (plain,)), place=place)
        self.right(COD, kind, "alias", (COD, COD, "equal", ()), place=place)
        two = fun(kind, kind)
        self.right(two, fun(COD, COD), "alias", (fun(COD, kind), fun(COD, COD), "alias", (
            (fun(COD, COD), fun(COD, COD), "equal", ()),)), place=place)
        # Both at once are not one part, and an upper is none that is the same.
        self.wrong(two, fun(COD, COD), (two, fun(COD, COD), "alias", ((fun(COD, COD), fun(COD, COD), "equal", ()),)),
                   place)
        self.wrong(part("c", "L"), FISH, (part("c", "L"), FISH, "alias", ((FISH, FISH, "equal", ()),)), DEF)
        self.wrong(kind, FISH, (kind, FISH, "of", ()), place)

    def test_a_pair_that_comes_again_is_no_fault(self):
        one = program(trait("T", a_kind("K"), a_kind("L", part("this", "K"))),
                      trait("U", a_kind("K", part("this", "L")), parents=(parent("T"),)))
        place = ((), (("u", of("U")),))
        k, l = part("u", "K"), part("u", "L")
        paper = (k, l, "upper", ((l, l, "equal", ()),))
        again = (k, l, "upper", ((l, l, "upper", (paper,)),))
        self.assertIs(below_holds(one, place, k, l, paper), True)
        self.assertIs(below_holds(one, place, k, l, again), True)

    def test_papers_that_are_spoilt_in_one_place(self):
        one, other = fun(FISH, mix(COD, INT)), fun(COD, FISH)
        paper = below_paper(program=WORLD, place=HERE, kind=one, other=other)
        self.assertEqual(paper, (one, other, "fun", ((COD, FISH, "of", ()), (mix(COD, INT), FISH, "part", (
            (COD, FISH, "of", ()),)))))
        self.assertIs(below_holds(program=WORLD, place=HERE, kind=one, other=other, thing=paper), True)
        def spoilt(thing):
            for at in range(len(thing)):
                for new in (None, 5, (), [], "x", list(thing[at]) if isinstance(thing[at], tuple) else ["x"], INT):
                    if new != thing[at]:
                        yield thing[:at] + (new,) + thing[at + 1:]
                if isinstance(thing[at], tuple):
                    for inner in spoilt(thing[at]):
                        yield thing[:at] + (inner,) + thing[at + 1:]
            yield thing + ((),)
            yield thing[:-1] if thing else (5,)
        many = 0
        for thing in spoilt(paper):
            self.wrong(one, other, thing)
            many += 1
        self.assertGreater(many, 200)
        for thing in (None, 5, [], list(paper), "paper", paper[1:]):
            self.wrong(one, other, thing)

    def test_no_papers_for_what_is_not_below(self):
        self.assertIsNone(below_paper(WORLD, HERE, FISH, COD))
        for word in ("any", "none", "equal", "each", "part", "fun", "of", "upper", "alias"):
            self.wrong(FISH, COD, (FISH, COD, word, ()))
            self.wrong(of("Both", COD), of("Both", FISH), (of("Both", COD), of("Both", FISH), word, (
                (COD, FISH, "of", ()),)))


class FreestTest(unittest.TestCase):
    def freest(self, wanted, *members, sign="", **more):
        one = program(
            trait("Out", kparams=(kparam("A", "+"),)), trait("In", kparams=(kparam("A", "-"),)),
            trait("Both", kparams=PARAM_A), cls("C", *members, kparams=(kparam("A", sign), kparam("B")), **more))
        self.assertEqual(freest_sign(one, "C", "A"), wanted)

    def test_rightly(self):
        for member in (a_val("v", A), a_def("v", A), lazy("v", A, ("stop", "")), own_given("v", A, ("stop", "")),
                       a_kind("K", A), a_val("v", of("Out", A)), a_val("v", fun(INT, A)), a_val("v", mix(INT, A)),
                       a_def("v", INT, params=(("x", fun(A, INT)),)), a_def("v", INT, wants=(("x", of("In", A)),)),
                       a_val("v", of("In", of("In", A)))):
            self.freest("+", member)
        self.freest("+", vparams=(("v", A),))
        self.freest("+", parents=(parent("Out", kinds=(A,)),))
        self.freest("+", a_val("v", A), sign="+")

    def test_turned(self):
        for member in (a_def("v", INT, params=(("x", A),)), a_def("v", INT, wants=(("x", A),)),
                       a_def("v", INT, kparams=(kparam("D", "", A),)), a_val("v", fun(A, INT)), a_val("v", of("In", A))):
            self.freest("-", member)
        self.freest("-", parents=(parent("In", kinds=(A,)),))
        self.freest("-", a_val("v", fun(A, INT)), sign="-")

    def test_both_ways_and_nowhere(self):
        self.freest("", a_val("v", A), a_val("w", fun(A, INT)))
        self.freest("", a_val("v", of("Both", A)))
        self.freest("", a_kind("K", ANY, A))
        self.freest("", parents=(parent("Both", kinds=(A,)),))
        self.freest("both")
        self.freest("both", a_val("v", B))
        # Its own sign counts as it is written.
        self.freest("", a_val("v", of("C", A, INT)))
        self.freest("+", a_val("v", of("C", A, INT)), sign="+")

    def test_uppers_of_the_class_are_left_aside(self):
        one = program(cls("C", kparams=(kparam("A"), kparam("B", "", A))))
        self.assertEqual(freest_sign(program=one, name="C", parameter="A"), "both")

    def test_errors_and_their_sequence(self):
        for thing in NO_NAMES + ("Eel",):
            with self.assertRaises(BadClass):
                freest_sign(WORLD, thing, "A")
        for thing in NO_NAMES + ("B", "a"):
            with self.assertRaises(NoParameter):
                freest_sign(WORLD, "Out", thing)
        with self.assertRaises(NoParameter):
            freest_sign(WORLD, "nemo", "A")
        with self.assertRaises(BadClass):
            freest_sign(WORLD, 5, 5)
        with self.assertRaises(NoParameter):
            freest_sign(WORLD, "Eel", 5)
        with self.assertRaises(NotLetBy):
            freest_sign(LOST, 5, 5)
        for thing in NO_PROGRAMS:
            with self.assertRaises(BadForm):
                freest_sign(thing, 5, 5)


class ErrorsTest(unittest.TestCase):
    def test_errors_and_their_sequence(self):
        works = (is_below, same_kind, first_gap, below_paper,
                 lambda *told: below_holds(*told, 5))
        for work in works:
            for thing in NO_KINDS + (A, of("Eel"), of("Cod", INT), part("x", "K"), part("nemo", "K")):
                with self.assertRaises(BadKind):
                    work(WORLD, HERE, thing, INT)
                with self.assertRaises(BadKind):
                    work(WORLD, HERE, INT, thing)
            for thing in NO_PLACES:
                with self.assertRaises(BadPlace):
                    work(WORLD, thing, 5, 5)
            with self.assertRaises(BadKind):
                work(WORLD, (("Eel",), ()), INT, 5)
            with self.assertRaises(BadPlace):
                work(WORLD, (("Eel",), ()), A, A)
            with self.assertRaises(NotLetBy):
                work(LOST, 5, 5, 5)
            for thing in NO_PROGRAMS:
                with self.assertRaises(BadForm):
                    work(thing, 5, 5, 5)

    def test_arguments_are_not_changed(self):
        lets = (("c", of("Cow")),)
        self.assertIs(is_below(CAGES_PROGRAM, ((), lets), part("c", "Eats"), of("Hay")), True)
        self.assertEqual(lets, (("c", of("Cow")),))


if __name__ == "__main__":
    unittest.main()
