"""Better cores: points 34 to 36."""

import unittest

from linearmix.better import better, core_size, direct_calls, gain, left_out, reach, reach_holds, shortened
from linearmix.cores import begun_bodies, is_core, run_core
from linearmix.errors import BadCore, BadCount
from linearmix.lowering import lowered
from test_cores import COD, FORMS, NO_COUNTS, ONE, SHOWS, THIS, UNIT, YES, main
from wildcores import wild_cores
from wilds import wild_programs
from worlds import ALL_PROGRAMS

NO_CORES = (None, 5, (), "core", list(COD), COD[:3], ((), (), (), 0))
WAYS = (direct_calls, left_out, shortened, better)


def sends(core):
    """How many sends stand in a core."""
    return str(core).count("('send'")


def tables(*rows, mains, bodies=()):
    """A core of tables with rows, all with the same begin, of a main and further bodies, from 2 on."""
    return (tuple(("P" + str(at), None, (), (), one, 1) for at, one in enumerate(rows)),
            ((0, 0, mains), (1, 0, UNIT)) + tuple(bodies), (), 0)


def make(number):
    return ("make", number, ())


def then(*cs):
    return cs[0] if len(cs) == 1 else ("then", cs[0], then(*cs[1:]))


class ReachTest(unittest.TestCase):
    def test_the_documents_example(self):
        self.assertEqual(reach(COD), ((0, 1, 2), (0,)))
        self.assertEqual(reach(SHOWS), ((0,), ()))

    def test_sends_that_several_tables_answer(self):
        core = tables((("a", 2), ("b", 3)), (("a", 4),), (("a", 5),), mains=then(make(0), ("send", make(1), "a", ())),
                      bodies=((1, 0, UNIT),) * 4)
        self.assertEqual(reach(core), ((0, 1, 2, 4), (0, 1)))
        # A row comes to be reached by a make that is found later, in the body of a row.
        core = tables((("a", 2),), (("a", 3),), mains=("send", make(0), "a", ()),
                      bodies=((1, 0, make(1)), (1, 0, ("send", THIS, "b", ()))))
        self.assertEqual(reach(core), ((0, 1, 2, 3), (0, 1)))

    def test_what_is_never_worked(self):
        core = ((("P", None, (), (), (), 1),), ((0, 0, ("if", YES, UNIT, ("late", ("fun", (), ("once", "x", ("single", 0)))))),
                                               (1, 0, UNIT), (0, 0, ("show", ("make", 0, ())))), ((2, "o"), (0, "p")), 0)
        self.assertEqual(reach(core), ((0, 1, 2), (0,)))
        self.assertEqual(begun_bodies(core, 100), [0])

    def test_nothing_else_is_begun(self):
        for core in [lowered(program) for program in ALL_PROGRAMS + tuple(wild_programs(300, 15))]:
            told = reach(core)
            self.assertIs(reach_holds(core, told), True)
            self.assertLessEqual(set(begun_bodies(core, 100000)), set(told[0]))
            for at in range(2):
                for number in told[at]:
                    less = tuple(one for one in told[at] if one != number)
                    self.assertIs(reach_holds(core, (less, told[1]) if at == 0 else (told[0], less)), False)


class ReachHoldsTest(unittest.TestCase):
    CORE = tables((("a", 2),), (("a", 3),), mains=("send", make(0), "a", ()), bodies=((1, 0, UNIT), (1, 0, ("direct", 0, ())),
                                                                                     (1, 0, ("single", 0))))
    CORE = CORE[:2] + (((0, "o"),), 0)

    def test_greater_sets(self):
        for told in (((0, 1, 2), (0,)), ((0, 1, 2, 3), (0, 1)), ((0, 1, 2, 3), (0,)), ((0, 1, 2, 3, 4), (0, 1)),
                     ((0, 1, 2, 4), (0,))):
            self.assertIs(reach_holds(self.CORE, told), True, told)
        # A table that no make there makes needs no begin there.
        core = (self.CORE[0] + (("Q", None, (), (), (), 4),),) + self.CORE[1:]
        self.assertIs(reach_holds(core, ((0, 1, 2), (0, 2))), True)

    def test_sets_that_are_not_closed(self):
        for told in (((0, 1, 2), (0, 1)), ((0, 1, 2), ()), ((0, 2), (0,)), ((1, 2), (0,)), ((0, 1), (0,)), ((), ()), ((1,), ())):
            self.assertIs(reach_holds(self.CORE, told), False, told)

    def test_any_object(self):
        for told in (None, 5, (), [(0, 1, 2), (0,)], ((0, 1, 2),), ([0, 1, 2], (0,)), ((0, 1, 2), [0]), ((0, 1, 2), (0,), ()),
                     ((2, 1, 0), (0,)), ((0, 0, 1, 2), (0,)), ((0, 1, 2, 5), (0,)), ((-1, 0, 1, 2), (0,)), ((0, 1, 2), (2,)),
                     ((False, 1, 2), (0,)), ((0, 1, 2), (False,)), ((0, True, 2), (0,)), ((0, 1, 2), (0, 0)), ((0, 1, "2"), (0,)),
                     (None, (0,)), ("012", (0,))):
            self.assertIs(reach_holds(self.CORE, told), False, told)


class DirectTest(unittest.TestCase):
    def test_the_documents_example(self):
        told = direct_calls(COD)
        self.assertEqual(told[1][0], (0, 0, ("direct", 1, (("make", 0, (("int", 7),)),))))
        self.assertEqual((told[0], told[1][1:], told[2:]), (COD[0], COD[1][1:], COD[2:]))
        self.assertEqual(run_core(told, 8), run_core(COD, 8))

    def test_where_all_tables_reached_have_one_body(self):
        send = ("send", make(1), "a", ())
        one = tables((("a", 2),), (("a", 2),), (("a", 3),), mains=then(make(0), send), bodies=((1, 0, UNIT), (1, 0, ONE)))
        self.assertEqual(direct_calls(one)[1][0][2], then(make(0), ("direct", 2, (make(1),))))
        unlike = tables((("a", 3),), (("a", 2),), mains=then(make(0), send), bodies=((1, 0, UNIT), (1, 0, ONE)))
        self.assertEqual(direct_calls(unlike), unlike)
        no_row = tables((), (("a", 2),), mains=then(make(0), send), bodies=((1, 0, UNIT), (1, 0, ONE)))
        self.assertEqual(direct_calls(no_row), no_row)
        none = tables((("a", 2),), mains=("send", UNIT, "a", ()), bodies=((1, 0, UNIT),))
        self.assertEqual(direct_calls(none), none)
        many = tables((("a", 2),), mains=("send", make(0), "a", (UNIT,)), bodies=((1, 0, UNIT),))
        self.assertEqual(direct_calls(many), many)

    def test_at_every_depth_of_bodies_that_are_reached(self):
        inner = ("send", ("send", make(0), "a", ()), "a", ())
        core = tables((("a", 2),), mains=("late", ("if", YES, inner, UNIT)), bodies=((1, 0, THIS), (1, 0, inner)))
        told = direct_calls(core)
        self.assertEqual(told[1][0][2], ("late", ("if", YES, ("direct", 2, (("direct", 2, (make(0),)),)), UNIT)))
        self.assertEqual(told[1][3], core[1][3])


class LeftOutTest(unittest.TestCase):
    def test_the_documents_example(self):
        told = left_out(direct_calls(COD))
        self.assertEqual(told, ((("Cod", (0,), (), ("Cod age",), (), 2),),) + direct_calls(COD)[1:])
        self.assertEqual(left_out(COD), COD)

    def test_bodies_tables_singles_rows_and_among(self):
        c = then(("among", make(1), (0, 1, 2)), ("send", make(2), "b", ()), ("single", 1), ("direct", 4, ()))
        core = ((("P", None, (), (), (), 2), ("Q", None, (), (), (("a", 3), ("b", 5)), 2), ("R", None, (), (), (("a", 3), ("b", 5)), 2)),
                ((1, 0, UNIT), (0, 0, c), (1, 1, ("let", 1, ONE, UNIT)), (1, 0, UNIT), (0, 0, UNIT), (1, 0, ONE), (0, 0, ONE)),
                ((4, "o"), (6, "p"), (4, "q")), 1)
        self.assertIs(is_core(core), True)
        told = left_out(core)
        self.assertEqual(told, (
            (("Q", None, (), (), (("b", 3),), 1), ("R", None, (), (), (("b", 3),), 1)),
            ((0, 0, then(("among", make(0), (0, 1)), ("send", make(1), "b", ()), ("single", 0), ("direct", 2, ()))),
             (1, 1, ("let", 1, ONE, UNIT)), (0, 0, UNIT), (1, 0, ONE), (0, 0, ONE)), ((4, "p"),), 0))
        self.assertIs(is_core(told), True)

    def test_a_single_goes_though_its_body_stays(self):
        core = ((), ((0, 0, ("direct", 1, ())), (0, 0, UNIT)), ((1, "o"),), 0)
        self.assertEqual(left_out(core), (core[0], core[1], (), 0))
        core = tables((), mains=("among", UNIT, (0,)))
        self.assertEqual(left_out(core), ((), ((0, 0, ("among", UNIT, ())),), (), 0))


class ShortenedTest(unittest.TestCase):
    def short(self, c, told, further=0, left=0):
        core = main(c, further)
        self.assertIs(is_core(core), True, c)
        self.assertEqual(shortened(core), main(told, left))

    def test_each_rule(self):
        show = ("show", ONE)
        self.short(("if", YES, show, UNIT), show)
        self.short(("if", ("truth", False), show, UNIT), UNIT)
        self.short(("if", ("op", "=", ONE, ONE), show, UNIT), ("if", ("op", "=", ONE, ONE), show, UNIT))
        for first in (ONE, ("text", "a"), YES, UNIT, ("fun", (), show), ("late", show)):
            self.short(("then", first, show), show)
            self.short(("let", 0, first, show), show, 1)
        for first in (show, ("once", "x", ONE), ("op", "+", ONE, ONE), ("now", ("once", "x", ONE)), ("stop", "stop", ("text", "a"))):
            self.short(("then", first, show), ("then", first, show))
            self.short(("let", 0, first, show), ("let", 0, first, show), 1, 1)
        self.short(("let", 0, ONE, ("then", THIS, THIS)), ("let", 0, ONE, THIS), 1, 1)
        self.short(("first", ("once", "x", show)), show)
        self.short(("now", ("late", show)), show)
        self.short(("let", 0, ("late", show), ("now", THIS)), ("let", 0, ("late", show), ("now", THIS)), 1, 1)
        self.short(("first", ("late", show)), ("first", ("late", show)))

    def test_within_one_another(self):
        show = ("show", ONE)
        c = ("if", YES, ("then", UNIT, ("now", ("late", ("first", ("once", "x", show))))), show)
        self.short(c, show)
        # What is read in what goes is read nowhere then.
        self.short(("let", 0, ONE, ("let", 1, THIS, ("then", ("local", 1), ("now", ("late", show))))), show, 2)
        self.short(("let", 0, ONE, ("let", 1, ("if", ("truth", False), THIS, UNIT), show)), show, 2)
        self.short(("let", 0, ("first", ("once", "x", ONE)), show), show, 1)

    def test_locals_are_numbered_anew(self):
        c = ("let", 3, ("show", ONE), ("let", 1, ONE, ("then", ("fun", (0,), THIS), ("let", 2, ("show", ("local", 3)), (
            "apply", ("fun", (5, 4), ("local", 2)), (("local", 3), UNIT))))))
        told = ("let", 1, ("show", ONE), ("let", 0, ("show", ("local", 1)), (
            "apply", ("fun", (3, 2), ("local", 0)), (("local", 1), UNIT))))
        self.short(c, told, 6, 4)
        core = ((), ((0, 0, UNIT), (2, 2, ("let", 2, ONE, ("let", 3, ("show", ("local", 1)), ("local", 3))))), (), 0)
        self.assertEqual(shortened(core)[1][1], (2, 1, ("let", 2, ("show", ("local", 1)), ("local", 2))))

    def test_all_bodies(self):
        core = ((), ((0, 0, UNIT), (1, 0, ("then", THIS, UNIT))), (), 0)
        self.assertEqual(shortened(core)[1], ((0, 0, UNIT), (1, 0, UNIT)))


class BetterTest(unittest.TestCase):
    def test_until_nothing_changes(self):
        # With the send gone the row goes, with it the body, and with it the other table.
        core = tables((("a", 2), ("b", 3)), (("a", 4),), mains=("if", YES, ("send", make(0), "a", ()), make(1)),
                      bodies=((1, 0, ONE), (1, 0, make(1)), (1, 0, UNIT)))
        told = better(core)
        self.assertEqual(told, ((("P0", None, (), (), (), 1),), ((0, 0, ("direct", 2, (make(0),))), (1, 0, UNIT), (1, 0, ONE)), (), 0))
        self.assertEqual(better(told), told)

    def test_the_same_outcome_and_never_more_steps(self):
        cores = [lowered(program) for program in ALL_PROGRAMS + tuple(wild_programs(400, 25))] + [core for core, _ in FORMS]
        for core in cores:
            outcome = run_core(core, 100000)
            for work in WAYS:
                told = work(core)
                self.assertIs(is_core(told), True)
                self.assertEqual(work(core), told)
                if outcome[0] not in ("steps", "deep"):
                    self.assertEqual(run_core(told, 100000), outcome)
                for bound in (0, 1, 3, 7, 12, 20, 40):
                    if run_core(core, bound)[0] != "steps":
                        self.assertEqual(run_core(told, bound), run_core(core, bound))
            best = better(core)
            for work in WAYS:
                self.assertEqual(work(best), best)
            self.assertLessEqual(core_size(best), core_size(core))

    def test_cores_made_by_chance(self):
        words = set()
        for core in wild_cores(600):
            self.assertIs(is_core(core), True, core)
            word, told, shown = run_core(core, 1500)
            words.add(word)
            self.assertIs(reach_holds(core, reach(core)), True)
            self.assertLessEqual(set(begun_bodies(core, 1500)), set(reach(core)[0]))
            for work in WAYS:
                other = work(core)
                self.assertIs(is_core(other), True, core)
                if word not in ("stuck", "steps", "deep"):
                    self.assertEqual(run_core(other, 1500), (word, told, shown), core)
            best = better(core)
            for work in WAYS:
                self.assertEqual(work(best), best)
        self.assertLessEqual({"value", "stuck", "steps", "round"}, words)

    def test_deep_cs(self):
        c = UNIT
        for at in range(238):
            c = ("then", ("show", UNIT), c) if at % 2 else ("show", c)
        for work in WAYS:
            self.assertEqual(work(main(("show", c))), main(("show", c)))
        self.assertIs(is_core(main(("show", ("show", c)))), False)


class SizeTest(unittest.TestCase):
    def test_sizes_and_gains(self):
        self.assertEqual(core_size(COD), 8)
        self.assertEqual(core_size(SHOWS), 6)
        self.assertEqual(gain(COD, 100), (8, 8))
        self.assertEqual(gain(COD, 8), (8, 8))
        self.assertIsNone(gain(COD, 7))
        self.assertEqual(gain(main(("then", UNIT, ("if", YES, ONE, UNIT))), 100), (5, 1))
        # The better one alone is through within the bound.
        self.assertIsNone(gain(main(("then", UNIT, ("if", YES, ONE, UNIT))), 4))
        self.assertIsNone(gain(main(("stop", "stop", ("text", "a"))), 100))
        self.assertIsNone(gain(main(("slot", UNIT, 0)), 100))


class ErrorsTest(unittest.TestCase):
    def test_errors_and_their_sequence(self):
        for thing in NO_CORES:
            for work in WAYS + (reach, core_size):
                with self.assertRaises(BadCore):
                    work(thing)
            with self.assertRaises(BadCore):
                reach_holds(thing, 5)
            with self.assertRaises(BadCore):
                gain(thing, -1)
        for thing in NO_COUNTS:
            with self.assertRaises(BadCount):
                gain(COD, thing)
        for work in WAYS + (reach, core_size):
            work(core=COD)
        self.assertIs(reach_holds(core=COD, thing=((0, 1, 2), (0,))), True)
        self.assertEqual(gain(core=COD, steps=100000), (8, 8))
        self.assertEqual(sends(COD), 1)


if __name__ == "__main__":
    unittest.main()
