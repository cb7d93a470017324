"""Desks: point 42."""

import unittest

from linearmix.desk import Desk
from linearmix.errors import (BadClass, BadCommand, BadForm, BadKind, BadName, BadText, Full, NothingToUndo, NotLetBy,
                              TooMany)
from linearmix.texts import write_program
from test_session import NO_LINE_NAMES
from worlds import FISHES, INT, THIS, a_def, call, cls, name, new, num, obj, op, parent, then, trait

FISH = "(trait Fish () () ((def title () () () (text) none0)) no)"
COD = "(class Cod () ((age (int))) ((Fish () ())) ((def title () () () (text) (text \"cod\"))) no)"


def written(definition):
    """A definition as a text."""
    return write_program(((definition,), ("unit",)))[2:-9]


class DeskCase(unittest.TestCase):
    def desk(self, *definitions):
        told = Desk()
        for definition in definitions:
            self.says(told, "ok", "define " + (definition if isinstance(definition, str) else written(definition)))
        return told

    def says(self, told, answer, row):
        self.assertEqual(told.say(row), answer)

    def wrong(self, error, told, row):
        with self.assertRaises(error) as caught:
            told.say(row)
        return caught.exception


class SayTest(DeskCase):
    def test_each_row(self):
        told = self.desk(FISH, COD)
        self.says(told, "value Cod(4)", "line c (new ((Cod () ((int 4)))))")
        self.says(told, 'value "cod"', "line -0 (call (name c) title none0 () none0)")
        self.says(told, "value ()", "line -0 (show (val (name c) age))")
        self.says(told, "1", "shown")
        self.says(told, "(of Cod ())", "kind (name c)")
        self.says(told, "(fun ((int) (of Fish ())) (text))", "kind (fun ((x (int)) (y (of Fish ()))) (text \"\"))")
        self.says(told, "Cod Fish", "order Cod")
        self.says(told, "Fish", "order Fish")
        self.says(told, "none", "given (int)")
        self.says(told, "ok", "define (given g () () (int) (int 3))")
        self.says(told, "found g", "given (int)")
        self.says(told, "ok", "define (given h () () (int) (int 3))")
        self.says(told, "ambiguous", "given (int)")
        self.says(told, "0", "unsure")
        self.says(told, "unmatched 3", "line m (match (int 3) (((lit (int 4)) (unit))))")
        self.says(told, "1", "unsure")
        self.says(told, "yes", "same")
        self.says(told, "ok", "undo")
        self.says(told, "0", "unsure")
        self.assertEqual(len(told.session), 7)

    def test_outcomes_without_what_is_told(self):
        told = self.desk(obj("o", a_def("f", INT, call(THIS, "f")), a_def("g", INT, op("+", call(THIS, "h"), call(THIS, "h"))),
                             a_def("h", INT, num(1))))
        self.says(told, "deep ", "line -0 (call (name o) f none0 () none0)")
        self.says(told, "stop ", 'line -0 (stop "")')
        self.says(told, "stop a b", 'line x (stop "a b")')
        self.says(told, 'value ""', 'line x (text "")')

    def test_texts_with_blanks_and_line_feeds(self):
        told = self.desk()
        self.says(told, "value 3", "line x   ( op +\n(int 1)(int 2) )  ")
        self.says(told, 'value "a  b"', 'line -0  (text "a  b")')
        self.says(told, "(int)", "kind  (name x)")

    def test_endless(self):
        told = self.desk("(class Box ((A + (any))) () () () no)",
                         "(given g ((A -0 (any))) ((w (of Box ((of Box ((var A))))))) (of Box ((var A))) (new ((Box ((var A)) ()))))")
        self.says(told, "endless", "given (of Box ((int)))")

    def test_same(self):
        told = self.desk(*FISHES)
        self.says(told, "yes", "same")
        self.says(told, "value nemo", "line n (name nemo)")
        self.says(told, "yes", "same")
        self.says(told, "stop end", 'line n (then (show (int 1)) (stop "end"))')
        self.says(told, "yes", "same")


class CommandTest(DeskCase):
    def test_no_rows(self):
        told = self.desk(FISH, COD)
        for row in (None, 5, b"undo", ("undo",), ["undo"], "", " ", "undo ", " undo", "UNDO", "undone", "undo x", "shown ", "unsure x",
                    "same ", "define", "kind", "given", "order", "order ", "order  Cod", "order Cod ", "order Cod Fish", "line",
                    "line ", "line x", "line  (int 1)", "line  x (int 1)", "say", "define\n(unit)", "undo\n", "lines x (unit)"):
            self.wrong(BadCommand, told, row)
        self.assertEqual(len(told.session), 2)

    def test_texts(self):
        told = self.desk(FISH, COD)
        for row, place in (("define ", 0), ("kind ", 0), ("given ", 0), ("line x ", 0), ("line X ", 0), ("kind (unit", 5),
                           ("kind unit", 0), ("line x (int 1) 2", 8), ("line X (int 1) 2", 8), ("line 9 (int", 4),
                           ("given (int) ", None), ("given (of Fish)", 8), ("given (unti)", 1), ("kind (int 01)", 5), ("kind \t(unit)", -1),
                           ("define (trait fish () () () no)", 7), ("define (unit)", 1), ("line x (trait T () () () no)", 1),
                           ("kind (unit)" + " " * 20000, -1), ("kind " + " " * 20000, 20000)):
            if place is None:
                told.say(row)
            else:
                self.assertEqual(self.wrong(BadText, told, row).place, place, row[:40])
        self.assertEqual(len(told.session), 2)

    def test_names_behind_texts(self):
        told = self.desk(FISH, COD)
        for row in ("line X (int 1)", "line 9 (int 1)", "line none0 (int 1)", "line - (name lost)", "line \"a\" (unit)",
                    "line (x) (unit)", "line -1 (unit)", "line x\ny (unit)", "line of (unit)"):
            self.wrong(BadName, told, row)
        for row in ("order Eel", "order 9", "order -0", "order (", "order cod"):
            self.wrong(BadClass, told, row)
        for thing in NO_LINE_NAMES:
            if isinstance(thing, str) and thing not in ("", "-0"):
                self.wrong(BadName, told, "line " + thing + " (name lost)")

    def test_forms_kinds_and_checks(self):
        told = self.desk(FISH, COD)
        self.wrong(BadForm, told, "define " + FISH)
        self.wrong(NotLetBy, told, "define (object o ((Gone () ())) ())")
        self.assertEqual(self.wrong(NotLetBy, told, "line x (show (name lost))").what, ("name", (0,)))
        self.assertEqual(self.wrong(NotLetBy, told, "kind (show (name lost))").what, ("name", (0,)))
        loud = self.desk("(trait Base () () ((def go () () () (int) none0)) no)", "(class Bare () () ((Base () ())) () no)",
                         "(trait Loud () ((Base () ())) ((def go () () () (int) (super go none0 () none0))) no)")
        for row in ("line x (new ((Bare () ()) (Loud () ())))", "kind (show (new ((Bare () ()) (Loud () ()))))"):
            self.assertEqual(self.wrong(NotLetBy, loud, row).what, ("super", ("Loud", "go")))
        for row in ("given (of Eel ())", "given (var A)", "given (of Cod ((int)))", "given (part (this) K)", "given (part (c) K)"):
            self.wrong(BadKind, told, row)
        told.say("line c (new ((Cod () ((int 4)))))")
        self.wrong(BadKind, told, "given (part (c) K)")
        self.wrong(BadForm, told, "line x " + "(show " * 19 + "(unit)" + ")" * 19)
        self.wrong(BadForm, told, "kind " + "(show " * 19 + "(unit)" + ")" * 19)
        self.assertEqual(len(told.session), 3)

    def test_undo_and_full(self):
        told = self.desk()
        self.wrong(NothingToUndo, told, "undo")
        for at in range(12):
            told.say("line -0 (show (int " + str(at) + "))")
        self.wrong(Full, told, "line -0 (show (int 1))")
        self.wrong(Full, told, "define " + FISH)
        self.wrong(BadName, told, "line X (show (int 1))")
        self.wrong(NotLetBy, told, "line x (name lost)")
        self.says(told, "12", "shown")
        self.says(told, "(int)", "kind (int 1)")
        self.says(told, "ok", "undo")
        self.says(told, "11", "shown")


class TooManyTest(DeskCase):
    def test_same_of_too_many_tables(self):
        letters = "ABCDEF"
        traits = [trait(one) for one in letters]
        news = [new("Low", more=[one for at, one in enumerate(letters) if number >> at & 1]) for number in range(64)]
        maker = obj("maker", *[a_def("f" + str(at), ("any",), then(*news[at * 5:at * 5 + 5])) for at in range(12)][:11],
                    a_def("f11", ("any",), then(*news[55:59])))
        told = self.desk(*traits, cls("Low"), maker)
        # Fifty-nine parts of news, and an object.
        self.says(told, "yes", "same")
        told.session.line(None, news[59])
        self.wrong(TooMany, told, "same")
        # Where a run is stopped by deep, or by steps, nothing is lowered.
        told.session.define(obj("down", a_def("f", INT, call(THIS, "f"))))
        self.says(told, "deep ", "line -0 (call (name down) f none0 () none0)")
        self.says(told, "yes", "same")
        told.say("undo")
        self.wrong(TooMany, told, "same")

    def test_by_the_interfaces_names(self):
        self.assertEqual(Desk().say(row="shown"), "0")
        self.assertEqual(name("o"), ("name", "o"))
        self.assertEqual(parent("C"), ("C", (), ()))


if __name__ == "__main__":
    unittest.main()
