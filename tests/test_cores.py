"""Cores and the small machine: points 30 to 32."""

import unittest

from linearmix.cores import begun_bodies, is_core, run_core
from linearmix.errors import BadCore, BadCount

UNIT = ("unit",)
ONE = ("int", 1)
YES = ("truth", True)
THIS = ("local", 0)

COD = ((("Cod", (0,), (), ("Cod age",), (("age", 1),), 2),),
       ((0, 0, ("send", ("make", 0, (("int", 7),)), "age", ())), (1, 0, ("slot", THIS, 0)),
        (2, 0, ("fill", 0, ("local", 1), UNIT))), (), 0)
SHOWS = ((), ((0, 0, ("then", ("show", ("op", "+", ONE, ("int", 2))), UNIT)),), (), 0)
NO_COUNTS = (None, -1, 100001, True, False, "5", (), [5], {})


def main(c, further=0):
    """A core of nothing but a main."""
    return ((), ((0, further, c),), (), 0)


def with_table(c, further=0, slots=("P a", "P b"), told=(0,), begin=None, name="P", more=(), rows=()):
    """A core of a main and a table whose begin takes one thing, and a body of one param."""
    begin = ("fill", 0, ("local", 1), UNIT) if begin is None else begin
    return (((name, told, more, slots, rows, 1),), ((0, further, c), (2, 0, begin), (1, 0, ("slot", THIS, 1))), (), 0)


def made(worth=ONE):
    return ("make", 0, (worth,))


# One core for each form of c, and what it is.
FORMS = (
    (main(("int", -7)), "-7"), (main(("text", 'a"b')), '"a"b"'), (main(("truth", False)), "no"), (main(UNIT), "()"),
    (main(("let", 0, ONE, THIS), 1), "1"), (with_table(("slot", made(), 0)), "1"), (with_table(made()), "P(1)"),
    (COD, "7"), (((), ((0, 0, ("direct", 1, (ONE, YES))), (2, 0, ("local", 1))), (), 0), "yes"),
    (((), ((0, 0, ("single", 0)), (0, 0, ONE)), ((1, "o"),), 0), "1"),
    (main(("now", ("late", ONE))), "1"), (main(("first", ("once", "x", ONE))), "1"),
    (main(("fun", (0,), THIS), 1), "fun"), (main(("apply", ("fun", (1, 0), THIS), (ONE, YES)), 2), "yes"),
    (main(("apply", ("fun", (), ONE), ())), "1"), (main(("if", ("truth", False), ONE, UNIT)), "()"),
    (with_table(("among", made(), (0,))), "yes"), (with_table(("among", made(), ())), "no"),
    (with_table(("among", ONE, (0,))), "no"), (main(("show", ONE)), "()"), (main(("then", UNIT, ONE)), "1"),
    (main(("op", "+", ONE, ONE)), "2"), (main(("op", "-", ONE, ONE)), "0"), (main(("op", "*", ("int", 3), ONE)), "3"),
    (main(("op", "<", ONE, ONE)), "no"), (main(("op", "=", ONE, ONE)), "yes"),
    (main(("op", "join", ("text", "a"), ("text", "b"))), '"ab"'),
)


class RunCoreTest(unittest.TestCase):
    def ends(self, core, word, told, shown=(), steps=100000):
        self.assertIs(is_core(core), True, core)
        self.assertEqual(run_core(core, steps), (word, told, list(shown)))

    def test_the_documents_examples(self):
        self.ends(COD, "value", "7", steps=100)
        self.ends(COD, "value", "7", steps=8)
        self.ends(COD, "steps", "", steps=7)
        self.assertEqual(begun_bodies(COD, 100), [0, 2, 1])
        self.ends(SHOWS, "value", "()", ["3"], steps=6)
        self.ends(SHOWS, "steps", "", ["3"], steps=5)

    def test_each_form_at_each_bound(self):
        for core, told in FORMS:
            self.ends(core, "value", told, run_core(core, 100)[2])
            words = [run_core(core, bound)[0] for bound in range(30)]
            least = words.index("value")
            self.assertEqual(words, ["steps"] * least + ["value"] * (30 - least))
            self.assertEqual(begun_bodies(core, 0), [core[3]])
            self.assertEqual(begun_bodies(core, 100), begun_bodies(core, least))

    def test_stops(self):
        self.ends(main(("stop", "stop", ("text", "a"))), "stop", "a")
        self.ends(main(("stop", "unmatched", ("text", "a"))), "unmatched", '"a"')
        self.ends(with_table(("then", ("show", ONE), ("stop", "unmatched", made()))), "unmatched", "P(1)", ["1"])
        self.ends(main(("op", "*", ("int", 10 ** 30), ("int", 10 ** 30))), "stop", "size")
        self.ends(main(("op", "-", ("int", 1 - 10 ** 60), ONE)), "stop", "size")
        long = ("op", "join", ("text", "a" * 80), ("op", "join", ("text", "a" * 80), ("text", "a" * 40)))
        self.ends(main(("then", long, ONE)), "value", "1")
        self.ends(main(("op", "join", long, ("text", "a"))), "stop", "size")

    def test_unready_and_told(self):
        self.ends(with_table(("slot", made(), 1)), "unready", "P b")
        self.ends(with_table(made(), told=(1, 0)), "unready", "P b")
        self.ends(with_table(("show", made()), told=(0, 0, 1)), "unready", "P b")
        self.ends(with_table(("stop", "unmatched", made()), told=(1,)), "unready", "P b")
        self.ends(with_table(made(), told=(0, 0), more=("Loud", "A b")), "value", "P(1 1)+Loud+A b")
        self.ends(with_table(made(), told=None, more=("Loud",), name="a (b"), "value", "a (b+Loud")
        self.ends(with_table(made(), told=()), "value", "P()")
        deep = ONE
        for _ in range(6):
            deep = made(deep)
        self.ends(with_table(deep), "value", "P(P(P(P(P(..)))))")
        self.ends(with_table(("show", made(("text", "a" * 80))), told=(0, 0, 0)), "value", "()",
                  [("P(" + ('"' + "a" * 80 + '" ') * 3)[:200]])
        # What is told of another one within is told whole ahead of the next slot, however long.
        wide = with_table(made(("text", "a" * 80)), told=(0, 0, 0, 1))
        self.ends(wide, "unready", "P b")
        hundred = with_table(("let", 0, made(ONE), ("let", 1, made(THIS), ("let", 2, made(("local", 1)), (
            "let", 3, made(("local", 2)), made(("local", 3)))))), 4, told=(0,) * 100)
        self.assertEqual(len(run_core(hundred, 1000)[1]), 200)

    def test_fill_again_and_what_a_make_is(self):
        twice = ("fill", 0, ("local", 1), ("fill", 0, ("op", "+", ("slot", THIS, 0), ONE), ("int", 99)))
        self.ends(with_table(("slot", made(), 0), begin=twice), "value", "2")
        self.ends(with_table(made(), begin=twice), "value", "P(2)")
        self.ends(with_table(("direct", 1, (made(), ONE)), begin=twice), "value", "99")

    def test_lates_onces_and_singles(self):
        told = ("then", ("show", ONE), ("int", 5))
        self.ends(main(("let", 0, ("late", told), ("op", "+", ("now", THIS), ("now", THIS))), 1), "value", "10", ["1", "1"])
        self.ends(main(("let", 0, ("once", "x", told), ("op", "+", ("first", THIS), ("first", THIS))), 1), "value", "10",
                  ["1"])
        single = ((), ((0, 0, ("op", "+", ("single", 0), ("single", 0))), (0, 0, told)), ((1, "o"),), 0)
        self.ends(single, "value", "10", ["1"])
        self.assertEqual(begun_bodies(single, 100), [0, 1])
        self.ends(((), ((0, 0, ("single", 0)), (0, 0, ("single", 0))), ((1, "o o"),), 0), "round", "o o")
        two = ((), ((0, 0, ("single", 0)), (0, 0, ("single", 1))), ((1, "o"), (0, "p")), 0)
        self.ends(two, "round", "o")
        own = with_table(("first", ("slot", made(), 1)), begin=(
            "fill", 1, ("once", "P l", ("first", ("slot", THIS, 1))), UNIT))
        self.ends(own, "round", "P l")

    def test_locals_as_they_were(self):
        # A late keeps what stood there when it came to be; its own lets are its own.
        c = ("let", 0, ONE, ("let", 1, ("late", ("let", 2, ("op", "+", THIS, ONE), ("local", 2))),
                             ("op", "+", ("now", ("local", 1)), ("now", ("local", 1)))))
        self.ends(main(c, 3), "value", "4")
        # A fun is applied within itself, each time with locals of its own.
        fun = ("fun", (0, 1), ("if", ("op", "<", ("local", 1), ONE), ("int", 0), (
            "let", 2, ("local", 1), ("op", "+", ("local", 2), ("apply", THIS, (THIS, ("op", "-", ("local", 2), ONE)))))))
        self.ends(main(("let", 3, fun, ("apply", ("local", 3), (("local", 3), ("int", 4)))), 4), "value", "10")

    def test_equal(self):
        for one, other, told in ((ONE, YES, "no"), (("int", 0), ("truth", False), "no"), (UNIT, ("text", ""), "no"),
                                 (UNIT, UNIT, "yes"), (("fun", (), ONE), ("fun", (), ONE), "no")):
            self.ends(main(("op", "=", one, other)), "value", told)
        self.ends(with_table(("let", 0, made(), ("op", "=", THIS, THIS)), 1), "value", "yes")
        self.ends(with_table(("op", "=", made(), made())), "value", "no")
        self.ends(main(("let", 0, ("fun", (), ONE), ("op", "=", THIS, THIS)), 1), "value", "yes")


class StuckTest(unittest.TestCase):
    def stuck(self, core, shown=()):
        self.assertIs(is_core(core), True, core)
        self.assertEqual(run_core(core, 1000), ("stuck", "", list(shown)))

    def test_each_way(self):
        show = ("then", ("show", ONE), ONE)
        for c in (("slot", show, 0), ("send", ONE, "age", (show,)), ("now", show), ("first", show), ("if", show, ONE, ONE),
                  ("apply", ONE, (show,)), ("op", "+", YES, show), ("op", "<", ("text", ""), show),
                  ("op", "join", ("text", ""), show), ("op", "-", show, UNIT), ("stop", "stop", show),
                  ("op", "*", ("late", ONE), show)):
            self.stuck(main(c), ["1"])
        for c in (("late", ONE), ("once", "x", ONE), ("show", ("late", ONE)), ("stop", "unmatched", ("late", ONE)),
                  ("stop", "stop", ("late", ONE)), ("op", "=", ("late", ONE), ONE), ("op", "=", ONE, ("once", "x", ONE)),
                  ("now", ("once", "x", ONE)), ("first", ("late", ONE)), ("apply", ("late", ONE), ())):
            self.stuck(main(c))
        self.stuck(main(("apply", ("fun", (0,), THIS), ()), 1))
        self.stuck(main(("apply", ("fun", (), ONE), (ONE,))))

    def test_of_objects(self):
        self.stuck(with_table(("slot", made(), 2)))
        self.stuck(with_table(made(), begin=("fill", 2, ("then", ("show", ONE), ONE), UNIT)), ["1"])
        self.stuck(with_table(("send", made(), "a", ())))
        self.stuck(with_table(made(("late", ONE))))
        self.stuck(with_table(("show", made(made(("once", "x", ONE))))))
        self.stuck(with_table(("send", made(), "a", (ONE,)), rows=(("a", 2),)))
        self.stuck(with_table(("if", made(), ONE, ONE)))
        self.stuck(with_table(("direct", 1, (ONE, ("then", ("show", ONE), ONE)))), ["1"])
        # A body that gets another number of things is not begun.
        self.assertEqual(begun_bodies(with_table(("send", made(), "a", (ONE,)), rows=(("a", 2),)), 100), [0, 1])
        self.assertEqual(run_core(with_table(("among", ("late", ONE), (0,))), 100), ("value", "no", []))

    def test_never_ahead_of_its_step(self):
        core = main(("slot", ONE, 0))
        self.assertEqual([run_core(core, bound)[0] for bound in range(3)], ["steps", "steps", "stuck"])


class DeepTest(unittest.TestCase):
    def core(self, many):
        down = ("if", ("op", "=", THIS, ("int", 0)), ("int", 7), ("direct", 1, (("op", "-", THIS, ONE),)))
        return ((), ((0, 0, ("direct", 1, (("int", many),))), (1, 0, down)), (), 0)

    def test_six_thousand_and_one_more(self):
        self.assertEqual(run_core(self.core(5999), 100000), ("value", "7", []))
        self.assertEqual(run_core(self.core(6000), 100000), ("deep", "", []))
        self.assertEqual(len(begun_bodies(self.core(6000), 100000)), 6001)

    def test_deep_goes_ahead_of_steps(self):
        # In each of 6,000 workings: an if, an op, a local, an int, a direct, an op, a local, an int.
        steps = 2 + 6000 * 8
        self.assertEqual(run_core(self.core(6000), steps), ("deep", "", []))
        self.assertEqual(run_core(self.core(6000), steps - 1), ("steps", "", []))

    def test_what_is_no_body(self):
        late = ("late", ONE)
        fun = ("fun", (0, 1), ("if", ("op", "=", ("local", 1), ("int", 0)), ("int", 7),
                               ("apply", THIS, (THIS, ("op", "-", ("local", 1), ONE)))))
        core = main(("let", 2, fun, ("apply", ("local", 2), (("local", 2), ("int", 7000)))), 3)
        self.assertEqual(run_core(core, 100000), ("value", "7", []))
        self.assertEqual(begun_bodies(core, 100000), [0])
        self.assertEqual(run_core(main(("now", late)), 3), ("value", "1", []))
        # Main that is called by its number counts.
        again = ((), ((0, 0, ("direct", 0, ())),), (), 0)
        self.assertEqual(run_core(again, 100000), ("deep", "", []))
        self.assertEqual(len(begun_bodies(again, 100000)), 6001)
        self.assertEqual(begun_bodies(again, 2), [0, 0, 0])
        self.assertEqual(begun_bodies(again, 0), [0])


def nested(many):
    """So many c's within one another."""
    c = UNIT
    for _ in range(many - 1):
        c = ("show", c)
    return c


class IsCoreTest(unittest.TestCase):
    def right(self, thing):
        self.assertIs(is_core(thing), True, thing)

    def wrong(self, thing):
        self.assertIs(is_core(thing), False)
        for work in (run_core, begun_bodies):
            with self.assertRaises(BadCore):
                work(thing, -1)

    def test_no_cores(self):
        for thing in (None, 5, "core", (), [], {}, ((), (), (), 0), list(COD), COD[:3], COD + (0,), ((), (), ()), UNIT,
                      COD[:3] + (True,), COD[:3] + (3,), COD[:3] + (-1,), COD[:3] + (1,), COD[:3] + (None,),
                      (list(COD[0]),) + COD[1:], (COD[0], list(COD[1])) + COD[2:], COD[:2] + ([], 0)):
            self.wrong(thing)

    def test_wrong_cs(self):
        for c in (None, (), "unit", ["unit"], ("unit", 1), ("nothing",), (("unit",),), ("int", True), ("int", "1"), ("int",),
                  ("truth", 1), ("text", "a\n"), ("text", 5), ("text", "a" * 81), ("local", 0), ("slot", UNIT, -1),
                  ("slot", UNIT, True), ("slot", 5, 0), ("send", UNIT, "", ()), ("send", UNIT, "a" * 81, ()),
                  ("send", UNIT, "a", []), ("send", UNIT, 5, ()), ("direct", 1, ()), ("direct", 0, (UNIT,)),
                  ("direct", True, ()), ("make", 0, ()), ("single", 0), ("late",), ("late", UNIT, UNIT), ("once", "", UNIT),
                  ("once", 5, UNIT), ("fun", [], UNIT), ("fun", (0,), UNIT), ("apply", UNIT, [UNIT]), ("apply", UNIT, (5,)),
                  ("if", YES, UNIT), ("let", 0, UNIT, UNIT), ("among", UNIT, (0,)), ("among", UNIT, []), ("op", "and", YES, YES),
                  ("op", "/", ONE, ONE), ("op", 5, ONE, ONE), ("stop", "size", UNIT), ("stop", "a"), ("fill", 0, UNIT, UNIT),
                  ("then", UNIT, ("then", UNIT, 5)), ("show", [UNIT])):
            self.wrong(main(c))

    def test_locals(self):
        self.right(main(("let", 0, ONE, ("let", 1, THIS, ("op", "+", THIS, ("local", 1)))), 2))
        self.right(main(("apply", ("fun", (1, 0), ("local", 1)), (ONE, ONE)), 2))
        self.right(main(("let", 0, ONE, ("late", ("fun", (), THIS))), 1))
        for c, further in (
                (("let", 0, THIS, ONE), 1), (("then", ("let", 0, ONE, ONE), THIS), 1),
                (("then", ("let", 0, ONE, ONE), ("let", 0, ONE, ONE)), 1), (("let", 0, ONE, ("let", 0, ONE, ONE)), 1),
                (("let", 0, ONE, ("fun", (0,), ONE)), 1), (("fun", (0, 0), ONE), 1), (("apply", ("fun", (0,), ONE), (THIS,)), 1),
                (("let", 1, ONE, ONE), 1), (("let", 0, ONE, ONE), 2), (ONE, 1), (("let", True, ONE, ONE), 2),
                (("let", 0, ONE, ("local", False)), 1), (("fun", (0, True), ONE), 2), (("let", 0, ONE, ("local", 1)), 1),
                (("let", 0, ONE, ("local", -1)), 1)):
            self.wrong(main(c, further))
        # Params are let nowhere.
        self.wrong(((), ((0, 0, UNIT), (1, 0, ("let", 0, ONE, ONE))), (), 0))
        self.wrong(((), ((0, 0, UNIT), (1, 0, ("fun", (0,), ONE))), (), 0))
        self.right(((), ((0, 0, UNIT), (1, 1, ("fun", (1,), THIS))), (), 0))

    def test_fills(self):
        def body(c, params=1, further=0):
            return ((), ((0, 0, UNIT), (params, further, c)), (), 0)
        fill = ("fill", 5, ONE, UNIT)
        for c in (fill, ("if", YES, ("then", fill, fill), ONE), ("fill", 0, ("late", ONE), fill)):
            self.right(body(c))
            self.wrong(body(c, 0))
        for c in (("late", fill), ("once", "x", fill), ("fun", (), fill), ("then", fill, ("late", ("then", ONE, fill)))):
            self.wrong(body(c))
        self.right(body(("then", ("late", ONE), fill)))
        self.wrong(body(("fill", -1, ONE, UNIT)))
        self.wrong(body(("fill", True, ONE, UNIT)))

    def test_bounds(self):
        self.right(main(nested(240)))
        self.wrong(main(nested(241)))
        self.right(main(("then", nested(239), nested(239))))
        self.wrong(main(("then", nested(239), nested(240))))
        self.right(((), ((0, 0, UNIT),) * 600, (), 599))
        self.wrong(((), ((0, 0, UNIT),) * 601, (), 0))
        table = ("P", None, (), (), (), 1)
        bodies = ((0, 0, UNIT), (1, 0, UNIT))
        self.right(((table,) * 60, bodies, ((0, "o"),) * 60, 0))
        self.wrong(((table,) * 61, bodies, (), 0))
        self.wrong(((), bodies, ((0, "o"),) * 61, 0))
        self.right(((), ((0, 0, UNIT), (400, 0, UNIT)), (), 0))
        self.wrong(((), ((0, 0, UNIT), (401, 0, UNIT)), (), 0))
        many = ("fun", tuple(range(1, 400)), UNIT)
        self.right(((), ((0, 0, UNIT), (1, 399, many)), (), 0))
        self.wrong(((), ((0, 0, UNIT), (2, 399, ("fun", tuple(range(2, 401)), UNIT))), (), 0))
        for frame in ((-1, 0, UNIT), (0, -1, UNIT), (True, 0, UNIT), (0, False, UNIT), (0, 0), [0, 0, UNIT], (0, 0, UNIT, 0)):
            self.wrong(((), ((0, 0, UNIT), frame), (), 0))
        for text, fits in (("a" * 80, True), ("a" * 81, False), ("~ ", True), ("a\n", False), ("", False), (5, False)):
            for core in (((("P", None, (), (text,), (), 1),), bodies, (), 0), (((text, None, (), (), (), 1),), bodies, (), 0),
                         ((("P", None, (text,), (), (), 1),), bodies, (), 0), ((("P", None, (), (), ((text, 1),), 1),), bodies, (), 0),
                         ((), bodies, ((0, text),), 0)):
                self.assertIs(is_core(core), fits, core)
        self.right(main(("text", "")))
        self.right(main(("text", "a" * 80)))

    def test_tables(self):
        bodies = ((0, 0, UNIT), (1, 0, UNIT), (2, 0, UNIT))
        def table(name="P", told=None, more=(), slots=("a", "b"), rows=(), begin=1):
            return (((name, told, more, slots, rows, begin),), bodies, (), 0)
        for core in (table(), table(told=()), table(told=(1, 0, 1)), table(more=("x", "x")), table(begin=2), table(slots=()),
                     table(rows=(("a", 1), ("b", 1), ("c d", 2)))):
            self.right(core)
        for core in (table(told=(2,)), table(told=(-1,)), table(told=(True,)), table(told=[0]), table(told=5), table(more=["x"]),
                     table(more=None), table(slots=("a", "a")), table(slots=["a"]), table(begin=0), table(begin=3), table(begin=True),
                     table(rows=(("b", 1), ("a", 1))), table(rows=(("a", 1), ("a", 2))), table(rows=(("a", 0),)),
                     table(rows=(("a", 3),)), table(rows=(("a",),)), table(rows=(["a", 1],)), table(rows=[("a", 1)]),
                     table(rows=None)):
            self.wrong(core)
        for single in ((1, "o"), (3, "o"), (-1, "o"), (False, "o"), ("o", 0), (0,), [0, "o"], (0, "o", 0)):
            self.wrong(((), bodies, (single,), 0))
        # As many cs as params: one less in make; among ascending.
        def in_main(c):
            return (table()[0] * 2, ((0, 0, c),) + bodies[1:], (), 0)
        self.right(in_main(("make", 0, ())))
        self.wrong(in_main(("make", 0, (UNIT,))))
        self.wrong(in_main(("make", 2, ())))
        self.right(in_main(("direct", 2, (UNIT, UNIT))))
        self.wrong(in_main(("direct", 2, (UNIT,))))
        for numbers, fits in (((), True), ((0, 1), True), ((1, 0), False), ((0, 0), False), ((2,), False), ((False,), False),
                              (("0",), False), ((0, None), False)):
            self.assertIs(is_core(in_main(("among", UNIT, numbers))), fits)

    def test_one_body_in_several_places(self):
        core = ((("P", None, (), (), (("a", 1), ("b", 1)), 1),), ((0, 0, ("single", 1)), (1, 0, UNIT)), ((0, "o"), (0, "p")), 0)
        self.right(core)
        self.assertEqual(run_core(core, 100), ("round", "p", []))


class ErrorsTest(unittest.TestCase):
    def test_errors_and_their_sequence(self):
        for work in (run_core, begun_bodies):
            for thing in NO_COUNTS:
                with self.assertRaises(BadCount):
                    work(COD, thing)
                with self.assertRaises(BadCore):
                    work(5, thing)
            work(core=COD, steps=100000)
        self.assertIs(is_core(thing=COD), True)

    def test_lists_are_new(self):
        begun_bodies(COD, 100).clear()
        self.assertEqual(begun_bodies(COD, 100), [0, 2, 1])
        run_core(SHOWS, 100)[2].clear()
        self.assertEqual(run_core(SHOWS, 100)[2], ["3"])


if __name__ == "__main__":
    unittest.main()
