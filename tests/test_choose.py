"""Kinds that are chosen: point 20."""

import unittest

from linearmix.errors import BadForm, BadKind, BadPlace, NotLetBy
from linearmix.found import choose
from test_kinds import LOST, NO_KINDS, NO_PLACES
from test_orders import NO_PROGRAMS, program
from worlds import (A, ANY, B, COD, FISH, FISHES, HERE, INT, NONE, PARAM_A, TEXT, UNIT, a_def, a_kind, cls, fun, kparam,
                    mix, num, of, part, parent, trait, var)

WORLD = program(
    *FISHES, trait("Out", kparams=(kparam("A", "+"),)), trait("In", kparams=(kparam("A", "-"),)),
    trait("Both", kparams=PARAM_A), trait("Sub", kparams=PARAM_A, parents=(parent("Both", kinds=(A,)),)),
    cls("Cage", a_kind("K", ANY, COD)),
    cls("Gen", a_def("f", INT, num(1), params=(("x", A), ("b", of("Both", A))), kparams=(kparam("A", "", FISH),))))
PIKE = of("Pike")
DEF = (("Gen", "f"), ())


class ChooseTest(unittest.TestCase):
    def told(self, wanted, *pairs, result=INT, aim=None, kparams=PARAM_A, place=HERE):
        self.assertEqual(choose(WORLD, place, kparams, pairs, result, aim), wanted)

    def chosen(self, kind, *pairs, **more):
        self.told(("chosen", (kind,)), *pairs, **more)

    def test_the_documents_example(self):
        self.chosen(FISH, (COD, A), (FISH, A))
        self.told(("none found", "A"), (INT, A), (TEXT, A))
        self.chosen(FISH, (fun(FISH, INT), fun(A, INT)))

    def test_above_and_below(self):
        self.chosen(COD, (COD, A))
        self.chosen(FISH, (FISH, A), (COD, A), (PIKE, A))
        self.chosen(COD, (fun(FISH, INT), fun(A, INT)), (fun(COD, INT), fun(A, INT)))
        self.chosen(COD, (COD, A), (fun(FISH, INT), fun(A, INT)))
        self.told(("none found", "A"), (FISH, A), (fun(COD, INT), fun(A, INT)))
        self.told(("none found", "A"), (fun(INT, INT), fun(A, INT)), (fun(COD, INT), fun(A, INT)))
        self.chosen(NONE)
        self.chosen(ANY, (ANY, A))
        self.chosen(NONE, (NONE, A))

    def test_by_signs(self):
        self.chosen(FISH, (of("Out", COD), of("Out", A)), (of("Out", FISH), of("Out", A)))
        self.chosen(COD, (of("In", COD), of("In", A)), (of("In", FISH), of("In", A)))
        self.chosen(COD, (of("Both", COD), of("Both", A)))
        self.told(("none found", "A"), (of("Both", COD), of("Both", A)), (of("Both", FISH), of("Both", A)))
        self.told(("none found", "A"), (of("Both", COD), of("Both", A)), (FISH, A))
        self.chosen(FISH, (COD, A), (of("Both", FISH), of("Both", A)))
        self.chosen(COD, (of("Sub", COD), of("Both", A)))
        self.chosen(COD, (of("Both", of("Out", COD)), of("Both", of("Out", A))))
        # All the same that are noted both ways: the first of them.
        self.chosen(mix(COD, FISH), (of("Both", mix(COD, FISH)), of("Both", A)), (of("Both", COD), of("Both", A)))

    def test_noted_above_by_one_and_below_by_another(self):
        takes_cod = (fun(COD, INT), fun(A, INT))
        self.chosen(COD, (mix(COD, ANY), A), (COD, A), takes_cod)
        self.chosen(COD, takes_cod, (mix(COD, ANY), A), (COD, A))
        self.chosen(mix(COD, ANY), (COD, A), (mix(COD, ANY), A), (fun(mix(COD, ANY), INT), fun(A, INT)))
        self.told(("none found", "A"), (COD, A), takes_cod, (INT, A), (fun(INT, INT), fun(A, INT)))
        # What does not hold is looked at when all are chosen; no top fails at once.
        two = (kparam("A"), kparam("B"))
        self.told(("none found", "B"), (COD, A), (TEXT, A), takes_cod, (COD, B), (TEXT, B), kparams=two)
        self.told(("none found", "A"), (COD, A), (TEXT, A), takes_cod, (COD, B), kparams=two)

    def test_what_is_asked_beside(self):
        self.told(("kind", ""), (INT, of("Both", A)))
        self.told(("kind", ""), (INT, TEXT))
        self.told(("kind", ""), (fun(INT), fun(A, INT)))
        self.told(("kind", ""), (COD, A), (fun(INT, TEXT), fun(A, INT)))
        self.chosen(INT, (fun(INT, COD), fun(A, FISH)))
        self.told(("kind", ""), (of("Both", COD), mix(of("Both", A), of("In", A))))

    def test_withs(self):
        self.chosen(COD, (mix(INT, of("Both", COD), of("Both", FISH)), of("Both", A)))
        self.chosen(COD, (mix(INT, mix(TEXT, of("Sub", COD))), of("Both", A)))
        self.chosen(FISH, (mix(INT, fun(FISH, INT)), fun(A, INT)))
        self.told(("kind", ""), (mix(INT, TEXT), of("Both", A)))
        self.chosen(mix(INT, COD), (mix(INT, COD), A))
        self.chosen(COD, (mix(of("Out", COD), of("In", FISH)), mix(of("Out", A), of("In", A))))
        self.chosen(mix(COD, INT), (mix(COD, INT), mix(A, FISH)))

    def test_the_result_and_the_wanted_kind(self):
        self.chosen(COD, result=A, aim=COD)
        self.chosen(COD, result=of("Both", A), aim=of("Both", COD))
        self.chosen(COD, result=fun(A, INT), aim=fun(COD, INT))
        self.chosen(NONE, result=of("Both", A), aim=INT)
        self.chosen(NONE, result=of("Both", A))
        # Those that have a note do not take one from the result.
        self.chosen(COD, (COD, A), result=A, aim=FISH)
        two = (kparam("A"), kparam("B"))
        self.told(("chosen", (COD, FISH)), (COD, A), result=fun(A, B), aim=fun(PIKE, FISH), kparams=two)
        # Where the result does not hold it notes nothing, not even for the first.
        self.told(("chosen", (NONE, NONE)), result=fun(A, B, INT), aim=fun(PIKE, FISH, TEXT), kparams=two)

    def test_uppers(self):
        fish = (kparam("A", "", FISH),)
        self.chosen(COD, (COD, A), kparams=fish)
        self.told(("upper", "A"), (INT, A), kparams=fish)
        two = (kparam("A"), kparam("B", "", A))
        self.told(("chosen", (FISH, COD)), (FISH, A), (COD, B), kparams=two)
        self.told(("upper", "B"), (COD, A), (FISH, B), kparams=two)
        # First all are chosen, then all notes looked at, then all uppers.
        self.told(("none found", "B"), (INT, A), (INT, B), (TEXT, B), kparams=(kparam("A", "", FISH), kparam("B")))
        self.told(("none found", "A"), (COD, A), (fun(PIKE, INT), fun(A, INT)), (INT, B),
                  kparams=(kparam("A"), kparam("B", "", FISH)))
        self.told(("none found", "B"), (COD, A), (fun(PIKE, INT), fun(A, INT)), (INT, B), (TEXT, B),
                  kparams=(kparam("A"), kparam("B", "", FISH)))

    def test_at_places(self):
        # In found and wanted kinds none is open, whatever its name.
        self.chosen(A, (A, A), place=DEF)
        self.chosen(A, (of("Both", A), of("Both", A)), place=DEF)
        self.told(("chosen", (A,)), (A, B), result=B, aim=FISH, kparams=(kparam("B"),), place=DEF)
        self.told(("kind", ""), (A, of("Both", A)), place=DEF)
        self.chosen(FISH, (fun(FISH, A), fun(A, FISH)), place=DEF)
        # Made plain.
        place = ((), (("c", of("Cage")),))
        self.chosen(COD, (part("c", "K"), A), place=place)
        self.chosen(COD, (of("Both", part("c", "K")), of("Both", A)), place=place)
        self.chosen(INT, (fun(INT, part("c", "K")), fun(A, COD)), place=place)

    def test_by_name_and_none_at_all(self):
        self.assertEqual(choose(program=WORLD, place=HERE, kparams=(), pairs=((COD, FISH),), result=INT, wanted=None),
                         ("chosen", ()))
        self.assertEqual(choose(WORLD, HERE, (), ((FISH, COD),), INT, None), ("kind", ""))

    def test_errors_and_their_sequence(self):
        def bad(error, *told, place=HERE, one=WORLD):
            with self.assertRaises(error):
                choose(one, place, *told)
        for thing in (None, [], 5, (("A", ""),), (("a", "", ANY),), (["A", "", ANY],), (("A", "", 5),),
                      (kparam("A"), kparam("A")), (kparam("A", "", var("B")),), (kparam("A", "", of("Eel")),)):
            bad(BadKind, thing, (), INT, None)
        for thing in (None, [], 5, ((INT,),), ([INT, INT],), ((INT, 5),), ((5, INT),), ((INT, INT, INT),),
                      ((A, INT),), ((INT, B),), ((of("Eel"), INT),), ((INT, part("x", "K")),)):
            bad(BadKind, PARAM_A, thing, INT, None)
        for thing in NO_KINDS + (B, of("Eel")):
            bad(BadKind, PARAM_A, (), thing, None)
        for thing in [kind for kind in NO_KINDS if kind is not None] + [A, of("Eel")]:
            bad(BadKind, PARAM_A, (), INT, thing)
        for thing in NO_PLACES:
            bad(BadPlace, 5, 5, 5, 5, place=thing)
        bad(BadKind, 5, 5, 5, 5, place=(("Eel",), ()))
        bad(BadPlace, PARAM_A, (), of("Eel"), None, place=(("Eel",), ()))
        for thing in NO_PROGRAMS:
            bad(BadForm, 5, 5, 5, 5, place=5, one=thing)
        bad(NotLetBy, 5, 5, 5, 5, place=5, one=LOST)


if __name__ == "__main__":
    unittest.main()
