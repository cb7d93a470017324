"""Members: point 10."""

import unittest

from linearmix.errors import BadClass, BadForm, BadParts, BadProgram, NoMember, NotAbove
from linearmix.members import bodies, lacking, members_of, super_of
from test_orders import FISHES_ALONE, NO_NAMES, NO_PROGRAMS, program
from worlds import (ANY, FISHES, INT, TEXT, a_def, a_kind, a_val, cls, lazy, new, obj, own_given, parent,
                    text, trait)

FORMS = program(
    trait("T", a_kind("K"), a_kind("L", ANY, INT), a_val("a", INT), a_val("b", INT, ("int", 1)),
          lazy("c", INT, ("int", 2)), a_def("d", INT), a_def("e", INT, ("int", 3)),
          own_given("f", INT, ("int", 4))),
    trait("U", a_kind("K"), a_val("a", INT), a_def("d", INT), a_def("e", INT), parents=(parent("T"),)),
    cls("C", a_kind("K", ANY, TEXT), a_def("d", INT, ("int", 5)), vparams=(("a", INT),),
        parents=(parent("U"),)),
    obj("o", parents=(parent("C", ("int", 1)),)))


class MembersOfTest(unittest.TestCase):
    def test_forms_and_the_first_with_a_body(self):
        self.assertEqual(members_of(FORMS, "T"), [
            ("K", "T", "kind"), ("L", "T", "kind"), ("a", "T", "val"), ("b", "T", "val"),
            ("c", "T", "lazy"), ("d", "T", "def"), ("e", "T", "def"), ("f", "T", "given")])
        # Without a body anywhere the first that has it; e has one further on.
        self.assertEqual(members_of(FORMS, "U"), [
            ("K", "U", "kind"), ("L", "T", "kind"), ("a", "U", "val"), ("b", "T", "val"),
            ("c", "T", "lazy"), ("d", "U", "def"), ("e", "T", "def"), ("f", "T", "given")])
        self.assertEqual(members_of(program=FORMS, name="C"), [
            ("K", "C", "kind"), ("L", "T", "kind"), ("a", "C", "val"), ("b", "T", "val"),
            ("c", "T", "lazy"), ("d", "C", "def"), ("e", "T", "def"), ("f", "T", "given")])
        self.assertEqual(members_of(FORMS, "o"), members_of(FORMS, "C"))
        self.assertEqual(members_of(program(cls("C")), "C"), [])

    def test_a_list_that_was_spoilt_is_told_again_as_it_was(self):
        told = members_of(FISHES_ALONE, "Pike")
        self.assertEqual(told, [("age", "Pike", "val"), ("teeth", "Pike", "val"), ("title", "Big", "def")])
        told.clear()
        self.assertEqual(len(members_of(FISHES_ALONE, "Pike")), 3)
        more = bodies(FISHES_ALONE, "Pike", "title")
        more.append("x")
        self.assertEqual(bodies(FISHES_ALONE, "Pike", "title"), ["Big", "Cod"])

    def test_errors(self):
        for thing in NO_PROGRAMS:
            with self.assertRaises(BadForm):
                members_of(thing, 5)
        with self.assertRaises(BadProgram):
            members_of(program(cls("C", parents=(parent("N"),))), 5)
        for name in NO_NAMES + ("Eel", "title"):
            with self.assertRaises(BadClass):
                members_of(FISHES_ALONE, name)


class BodiesTest(unittest.TestCase):
    def test_all_of_the_order(self):
        self.assertEqual(bodies(FISHES_ALONE, "nemo", "title"), ["Loud", "Big", "Cod"])
        self.assertEqual(bodies(program=FISHES_ALONE, name="Fish", member="title"), [])
        self.assertEqual(bodies(FORMS, "o", "a"), ["C"])
        self.assertEqual(bodies(FORMS, "o", "K"), ["C"])
        self.assertEqual(bodies(FORMS, "o", "L"), ["T"])
        self.assertEqual(bodies(FORMS, "o", "c"), ["T"])
        self.assertEqual(bodies(FORMS, "o", "f"), ["T"])
        self.assertEqual(bodies(FORMS, "o", "d"), ["C"])

    def test_errors_and_their_sequence(self):
        for member in NO_NAMES + ("eel", "age"):
            with self.assertRaises(NoMember):
                bodies(FISHES_ALONE, "Cod", member)
        for thing in NO_PROGRAMS:
            with self.assertRaises(BadForm):
                bodies(thing, 5, 5)
        with self.assertRaises(BadProgram) as caught:
            bodies(program(cls("C", parents=(parent("N"),))), 5, 5)
        self.assertEqual(caught.exception.where, ("C",))
        with self.assertRaises(BadClass):
            bodies(FISHES_ALONE, 5, 5)
        # What is none by itself goes ahead of what the program tells.
        with self.assertRaises(NoMember):
            bodies(FISHES_ALONE, "Eel", 5)
        with self.assertRaises(BadClass):
            bodies(FISHES_ALONE, "Eel", "eel")


class SuperOfTest(unittest.TestCase):
    def test_whole_chains(self):
        def chain(one, name, member):
            found = [bodies(one, name, member)[0]]
            while found[-1] is not None:
                found.append(super_of(one, name, found[-1], member))
            return found
        self.assertEqual(chain(FISHES_ALONE, "nemo", "title"), ["Loud", "Big", "Cod", None])
        self.assertEqual(chain(FISHES_ALONE, "Pike", "title"), ["Big", "Cod", None])
        self.assertEqual(chain(FORMS, "o", "e"), ["T", None])

    def test_from_a_class_without_a_body_and_of_other_objects(self):
        self.assertEqual(super_of(FISHES_ALONE, "nemo", "nemo", "title"), "Loud")
        self.assertEqual(super_of(FISHES_ALONE, "nemo", "Pike", "title"), "Big")
        self.assertIsNone(super_of(FISHES_ALONE, "Big", "Big", "title"))
        self.assertEqual(super_of(program=FISHES_ALONE, name="Pike", above="Big", member="title"), "Cod")
        self.assertIsNone(super_of(FISHES_ALONE, "nemo", "Fish", "title"))

    def test_a_name_that_nothing_has(self):
        self.assertIsNone(super_of(FISHES_ALONE, "nemo", "Loud", "eel"))
        self.assertIsNone(super_of(FISHES_ALONE, "nemo", "Loud", 5))
        self.assertIsNone(super_of(FORMS, "o", "C", "K"))
        self.assertEqual(super_of(FORMS, "o", "C", "L"), "T")

    def test_errors_and_their_sequence(self):
        for above in NO_NAMES + ("Eel", "nemo", "Loud"):
            with self.assertRaises(NotAbove):
                super_of(FISHES_ALONE, "Pike", above, "title")
        for name in NO_NAMES + ("Eel",):
            with self.assertRaises(BadClass):
                super_of(FISHES_ALONE, name, "Cod", "title")
        with self.assertRaises(BadClass):
            super_of(FISHES_ALONE, 5, 5, 5)
        with self.assertRaises(NotAbove):
            super_of(FISHES_ALONE, "Eel", 5, 5)
        with self.assertRaises(BadClass):
            super_of(FISHES_ALONE, "Eel", "Eel", 5)
        for thing in NO_PROGRAMS:
            with self.assertRaises(BadForm):
                super_of(thing, 5, 5, 5)
        with self.assertRaises(BadProgram):
            super_of(program(cls("C", parents=(parent("C"),))), 5, 5, 5)


class LackingTest(unittest.TestCase):
    def test_names_without_a_body(self):
        one = program(*FISHES, cls("Bare", a_val("a", INT), a_kind("K"), a_def("f", INT), parents=(parent("Fish"),)),
                      trait("Helps", a_def("title", TEXT, text("x")), a_val("a", INT, ("int", 1))))
        self.assertEqual(lacking(one, new("Cod")[1]), [])
        self.assertEqual(lacking(one, new("Bare")[1]), ["K", "a", "f", "title"])
        self.assertEqual(lacking(program=one, parts=new("Bare", more=("Helps",))[1]), ["K", "f"])
        self.assertEqual(lacking(one, new("Bare", more=("Loud",))[1]), ["K", "a", "f"])

    def test_errors(self):
        for parts in (None, (), (("Loud", (), ()),), (("Cod", (), ()), ("Pike", (), ())), (("nemo", (), ()),),
                      [("Cod", (), ())], (("Cod", (), ()), ("Big", (), ()), ("Big", (), ()))):
            with self.assertRaises(BadParts):
                lacking(FISHES_ALONE, parts)
        for thing in NO_PROGRAMS:
            with self.assertRaises(BadForm):
                lacking(thing, 5)
        with self.assertRaises(BadProgram):
            lacking(program(obj("o", parents=(parent("N"),))), 5)


if __name__ == "__main__":
    unittest.main()
