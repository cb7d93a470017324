"""Orders: point 9."""

import itertools
import unittest

from linearmix.errors import BadClass, BadForm, BadParts, BadProgram
from linearmix.orders import disordered, mixed, order_holds, order_of
from worlds import (ANY, FISHES, INT, PARAM_A, TEXT, UNIT, a_def, cls, given, kparam, new, obj, of,
                    parent, part, trait, var)

NO_PROGRAMS = (None, (), [], ((), ()), [(), UNIT], ((), ["unit"]), ((cls("a"),), UNIT), 7, "text")
NO_NAMES = ("", "9a", "a_b", "of", "this", "abcdefghijklm", 7, True, None, ("Cod",), ["Cod"], {})


def program(*definitions):
    return (definitions, ("unit",))


FISHES_ALONE = program(*FISHES)
DIAMOND = program(
    trait("T1"), trait("T2", parents=(parent("T1"),)), trait("T3", parents=(parent("T1"),)),
    cls("C1", parents=(parent("T2"),)), cls("C2", parents=(parent("C1"), parent("T3"))))
# Parents between: the sequence of T2, T1 is that of the second one, not of the first.
BETWEEN = program(
    trait("T1"), trait("T2"), trait("P1", parents=(parent("T1"), parent("T2"))),
    trait("P2", parents=(parent("T2"), parent("T1"))),
    trait("P3", parents=(parent("T1"),)),
    trait("All1", parents=(parent("P1"), parent("P2"), parent("P3"))))


class OrderOfTest(unittest.TestCase):
    def test_one_class(self):
        self.assertEqual(order_of(program(cls("Cod")), "Cod"), ("Cod",))
        self.assertEqual(order_of(program(obj("nemo")), "nemo"), ("nemo",))
        self.assertIs(type(order_of(program(trait("T")), "T")), tuple)

    def test_many_in_any_sequence_of_definitions(self):
        wanted = ("nemo", "Loud", "Pike", "Big", "Cod", "Fish")
        for definitions in itertools.permutations(FISHES):
            self.assertEqual(order_of((definitions, ("unit",)), "nemo"), wanted)
        self.assertEqual(order_of(FISHES_ALONE, "Pike"), ("Pike", "Big", "Cod", "Fish"))

    def test_a_name_is_kept_at_its_last_place(self):
        self.assertEqual(order_of(DIAMOND, "C2"), ("C2", "T3", "C1", "T2", "T1"))

    def test_the_first_parents_order_is_whole_at_the_end(self):
        for one in (DIAMOND, BETWEEN, FISHES_ALONE):
            for definition in one[0]:
                parents = definition[2] if definition[0] == "object" else definition[-3]
                if parents:
                    first = order_of(one, parents[0][0])
                    self.assertEqual(order_of(one, definition[1])[-len(first):], first)

    def test_parents_between_may_stand_otherwise(self):
        self.assertEqual(order_of(BETWEEN, "All1"), ("All1", "P3", "P2", "P1", "T2", "T1"))

    def test_by_name_and_arguments_as_they_were(self):
        self.assertEqual(order_of(program=DIAMOND, name="C1"), ("C1", "T2", "T1"))

    def test_bad_class(self):
        for name in NO_NAMES + ("Eel", "cod", "unit"):
            with self.assertRaises(BadClass):
                order_of(FISHES_ALONE, name)
            with self.assertRaises(BadClass):
                order_holds(FISHES_ALONE, name, ("Cod",))
        with self.assertRaises(BadClass):
            order_of(program(given("gi", INT, ("int", 1))), "gi")

    def test_what_check_alone_tells_is_no_bad_program(self):
        for one in (program(trait("T", a_def("f", INT)), trait("U", a_def("f", TEXT), parents=(parent("T"),))),
                    (FISHES, ("name", "nothing")),
                    program(cls("C", kparams=PARAM_A), trait("T", parents=()),
                            cls("D", parents=(parent("C", kinds=(of("Nothing"),)),)))):
            self.assertIs(type(order_of(one, one[0][1][1])), tuple)


class OrderHoldsTest(unittest.TestCase):
    def test_the_order_and_objects_near_it(self):
        order = order_of(FISHES_ALONE, "Pike")
        self.assertIs(order_holds(FISHES_ALONE, "Pike", order), True)
        near = [list(order), order[:-1], order[1:], order + ("Fish",), order[::-1], (), None, "Pike", 5,
                ("Pike",), ("Pike", "Big", "Big", "Cod", "Fish"), ("Pike", "Cod", "Big", "Fish"),
                (order,), order_of(FISHES_ALONE, "Cod"), ("Pike", "Big", "Cod", ["Fish"]), {}, b"Pike"]
        for thing in near:
            self.assertIs(order_holds(program=FISHES_ALONE, name="Pike", thing=thing), False, thing)


class DisorderedTest(unittest.TestCase):
    def test_none(self):
        self.assertEqual(disordered(FISHES_ALONE), [])
        self.assertEqual(disordered(program()), [])
        self.assertEqual(disordered(DIAMOND), [])

    def test_the_first_two_names_by_their_places(self):
        # P2 has T1 ahead of T2 in its order, All1 and P1 the other way round.
        self.assertEqual(order_of(BETWEEN, "P2"), ("P2", "T1", "T2"))
        self.assertEqual(order_of(BETWEEN, "P1"), ("P1", "T2", "T1"))
        self.assertEqual(disordered(BETWEEN), [("All1", "T2", "T1")])

    def test_of_several_the_first_by_the_first_and_then_by_the_second(self):
        one = program(
            trait("A1"), trait("A2"), trait("A3"),
            trait("X", parents=(parent("A1"), parent("A2"), parent("A3"))),
            trait("Y", parents=(parent("A3"), parent("A2"), parent("A1"))),
            trait("Z", parents=(parent("X"), parent("Y"))),
            trait("W", parents=(parent("Y"), parent("X"))))
        self.assertEqual(order_of(one, "Z"), ("Z", "Y", "X", "A3", "A2", "A1"))
        self.assertEqual(disordered(one), [("W", "A1", "A2"), ("Z", "A3", "A2")])

    def test_each_list_is_new(self):
        disordered(BETWEEN).append("more")
        self.assertEqual(disordered(BETWEEN), [("All1", "T2", "T1")])


class MixedTest(unittest.TestCase):
    def test_the_order_of_parts(self):
        self.assertEqual(mixed(FISHES_ALONE, new("Cod")[1]), ("Cod", "Fish"))
        self.assertEqual(mixed(FISHES_ALONE, new("Cod", more=("Loud", "Big"))[1]),
                         ("Big", "Loud", "Cod", "Fish"))
        self.assertEqual(mixed(program=FISHES_ALONE, parts=new("Pike", more=("Big",))[1]),
                         ("Pike", "Big", "Cod", "Fish"))

    def test_kinds_and_args_are_not_looked_at(self):
        parts = (("Cod", (of("Nothing"), var("Z"), part("a", "B")), (("name", "nothing"),)), ("Big", (INT,), ()))
        self.assertEqual(mixed(FISHES_ALONE, parts), ("Big", "Cod", "Fish"))

    def test_bad_parts(self):
        cod, loud = ("Cod", (), ()), ("Loud", (), ())
        for parts in (None, (), [], "Cod", cod, [cod], (list(cod),), (("Cod", [], ()),), (("Cod", (), []),),
                      (("Cod", ()),), (("Cod", (), (), ()),), (("Cod", (), (5,)),), (("Cod", ("int",), ()),),
                      (cod, ("Loud", (), (("unit",),))), (("cod", (), ()),), (("nemo", (), ()),),
                      (("Eel", (), ()),), (cod, ("Eel", (), ())), (loud,), (loud, cod), (cod, ("Pike", (), ())),
                      (cod, cod), (cod, loud, loud), (cod, loud, ("nemo", (), ()))):
            with self.assertRaises(BadParts):
                mixed(FISHES_ALONE, parts)


class BadProgramTest(unittest.TestCase):
    def bad(self, where, *definitions):
        one = program(*definitions)
        for work in (lambda: order_of(one, 5), lambda: order_holds(one, 5, 5), lambda: disordered(one),
                     lambda: mixed(one, 5)):
            with self.assertRaises(BadProgram) as caught:
                work()
            self.assertEqual(caught.exception.where, where)

    def test_each_way(self):
        c, t, o = cls("C"), trait("T"), obj("o")
        self.bad(("C2",), c, cls("C2", parents=(parent("Nothing"),)))
        self.bad(("T2",), c, trait("T2", parents=(parent("C"),)))
        self.bad(("C2",), c, t, cls("C2", parents=(parent("T"), parent("C"))))
        self.bad(("o",), c, t, obj("o", parents=(parent("T"), parent("C"))))
        self.bad(("C2",), t, cls("C2", parents=(parent("T"), parent("T"))))
        self.bad(("C",), cls("C", parents=(parent("C"),)), o)
        self.bad(("C2",), c, cls("C2", parents=(parent("C", kinds=(INT,)),)))
        self.bad(("C2",), cls("C", kparams=PARAM_A), cls("C2", parents=(parent("C"),)))

    def test_kind_arguments(self):
        box = cls("Box", kparams=PARAM_A)
        for kind in (var("B"), of("Box", var("A")), part("o", "K"), ("fun", (var("A"),), INT),
                     of("Box", part("o", "K"))):
            self.bad(("D",), box, obj("o", ("kind", "K", ANY, INT)),
                     cls("D", kparams=PARAM_A, parents=(parent("Box", kinds=(kind,)),)))
        self.assertEqual(order_of(program(box, cls("D", kparams=PARAM_A, parents=(
            parent("Box", kinds=(var("A"),)),))), "D"), ("D", "Box"))
        self.assertEqual(order_of(program(box, cls("D", parents=(
            parent("Box", kinds=(of("Box", INT),)),))), "D"), ("D", "Box"))

    def test_rounds_and_the_first_by_definitions(self):
        self.bad(("X",), trait("T", parents=(parent("X"),)), trait("X", parents=(parent("Y"),)),
                 trait("Y", parents=(parent("X"),)))
        self.bad(("Y",), trait("Y", parents=(parent("X"),)), trait("X", parents=(parent("Y"),)))
        self.bad(("B",), trait("A"), trait("B", parents=(parent("N"),)), trait("C", parents=(parent("N"),)))

    def test_ahead_of_it_bad_form(self):
        for thing in NO_PROGRAMS:
            for work in (lambda: order_of(thing, 5), lambda: order_holds(thing, 5, 5),
                         lambda: disordered(thing), lambda: mixed(thing, 5)):
                with self.assertRaises(BadForm):
                    work()

    def test_signs_do_not_count(self):
        one = program(trait("T", kparams=(kparam("A", "+"),)),
                      trait("U", kparams=(kparam("A", "-"),), parents=(parent("T", kinds=(var("A"),)),)))
        self.assertEqual(order_of(one, "U"), ("U", "T"))


if __name__ == "__main__":
    unittest.main()
