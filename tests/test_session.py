"""Sessions: points 40 and 41."""

import unittest

from linearmix.checks import check
from linearmix.errors import (BadForm, BadName, BadNumber, Full, NothingToUndo, NotLetBy)
from linearmix.found import kind_at
from linearmix.runs import run
from linearmix.session import Session
from test_found import NO_TREES
from wilds import Wild
from worlds import (A, ANY, CAGES, FISHES, HERE, INT, PARAM_A, TEXT, THIS, UNIT, a_def, a_kind, a_val, above, call, cls,
                    extend, fun, given, lazy, let, name, new, num, obj, of, op, own_given, parent, part, text, then, trait, val)

NO_LINE_NAMES = ("", "9a", "a_b", "of", "this", "Cod", "abcdefghijklm", 7, True, (), ["c"], {}, "-0")


def session(*definitions):
    told = Session()
    for definition in definitions:
        told.define(definition)
    return told


def show(e):
    return ("show", e)


def fun_of(e):
    return ("fun", (), e)


def what_of_line(rows, e):
    """What check tells of the program with a further line, places of main within the line alone."""
    lines = [row for row in rows if row[0] == "line"]
    main = e
    for _, x, one in reversed(lines):
        main = then(one, main) if x is None else let(x, one, main)
    word, where = check((tuple(row for row in rows if row[0] != "line"), main))
    return (word, where if where and isinstance(where[0], str) else where[len(lines):])


class SessionCase(unittest.TestCase):
    def wrong(self, error, work, *args):
        with self.assertRaises(error) as caught:
            work(*args)
        return caught.exception

    def not_let_by(self, what, work, *args):
        self.assertEqual(self.wrong(NotLetBy, work, *args).what, what)

    def state(self, told):
        return [told[at] for at in range(len(told))], told.program(), told.shown()


class LineTest(SessionCase):
    def test_names(self):
        told = session()
        self.assertEqual(told.line("x", num(3)), ("value", "3", []))
        self.assertEqual(told.line(None, op("+", name("x"), num(1))), ("value", "4", []))
        self.assertEqual(told.line("x", then(show(name("x")), text("a"))), ("value", '"a"', ["3"]))
        self.assertEqual(told.line("y", name("x")), ("value", '"a"', []))
        self.assertEqual([told[at] for at in range(4)], [
            ("line", "x", num(3)), ("line", None, op("+", name("x"), num(1))), ("line", "x", then(show(name("x")), text("a"))),
            ("line", "y", name("x"))])
        self.assertEqual(told.program(), ((), let("x", num(3), then(op("+", name("x"), num(1)), let(
            "x", then(show(name("x")), text("a")), name("x"))))))
        self.assertEqual(run(told.program(), 5000), ("value", '"a"', told.shown()))

    def test_empty(self):
        told = Session()
        self.assertEqual((len(told), told.shown(), told.program()), (0, [], ((), ("unit",))))
        self.assertIsNone(told.define(trait("Fish")))
        self.assertEqual(told.program(), ((trait("Fish"),), ("unit",)))
        self.assertEqual((len(told), told[0]), (1, trait("Fish")))

    def test_names_hide_objects(self):
        told = session(obj("o"))
        self.assertEqual(told.line(None, name("o")), ("value", "o", []))
        told.line("o", num(5))
        self.assertEqual(told.line(None, op("+", name("o"), num(1))), ("value", "6", []))
        self.assertEqual(told.kind(name("o")), INT)
        # An object that is defined later is hidden, too.
        told.line("p", num(1))
        told.define(obj("p"))
        self.assertEqual(told.line(None, name("p")), ("value", "1", []))

    def test_lines_that_stop(self):
        told = session()
        self.assertEqual(told.line("x", then(show(num(1)), ("stop", "end"))), ("stop", "end", ["1"]))
        self.assertEqual(told[0], ("line", None, then(show(num(1)), ("stop", "end"))))
        self.not_let_by(("name", ()), told.line, "y", name("x"))
        self.assertEqual(told.line("x", num(2)), ("value", "2", []))
        self.assertEqual(told.line("x", ("match", name("x"), ((("lit", num(1)), num(0)),))), ("unmatched", "2", []))
        self.assertEqual(told.line(None, name("x")), ("value", "2", []))
        self.assertEqual(told.shown(), ["1"])
        self.assertEqual(told.program()[1], then(told[0][2], ("let", "x", None, num(2), then(told[2][2], name("x")))))
        self.assertEqual(told.line(None, op("*", num(10 ** 59), num(10))), ("stop", "size", []))

    def test_steps_of_its_own(self):
        tool = obj("tool", a_def("many", INT, ("if", op("<", name("n"), num(1)), num(0), op(
            "+", call(THIS, "half", name("n")), call(THIS, "half", name("n")))), params=(("n", INT),)),
                   a_def("half", INT, call(THIS, "many", op("-", name("n"), num(1))), params=(("n", INT),)))
        told = session(tool)
        for _ in range(3):
            self.assertEqual(told.line(None, call(name("tool"), "many", num(7))), ("value", "0", []))
        self.assertEqual(run(told.program(), 5000)[0], "steps")
        self.assertEqual(told.line(None, call(name("tool"), "many", num(40))), ("steps", "", []))
        deep = obj("deep", a_def("down", INT, call(THIS, "down")))
        told.define(deep)
        self.assertEqual(told.line(None, call(name("deep"), "down")), ("deep", "", []))
        self.assertEqual(told.line(None, call(name("tool"), "many", num(2))), ("value", "0", []))

    def test_shown_is_one_for_all(self):
        told = session()
        told.line(None, show(num(1)))
        told.line(None, then(show(num(2)), show(num(3))))
        self.assertEqual(told.shown(), ["1", "2", "3"])
        told.shown().clear()
        told.line(None, show(num(4)))[2].append("spoilt")
        self.assertEqual(told.shown(), ["1", "2", "3", "4"])


class LeftTest(SessionCase):
    CELL = cls("Cell", lazy("l", INT, then(show(text("l")), num(7))), a_val("v", INT, num(1)), own_given("g", INT, then(
        show(text("g")), num(8))))

    def test_lazies_that_were_read_in_an_earlier_line(self):
        told = session(self.CELL, obj("o", a_val("w", INT, then(show(text("o")), num(2)))))
        told.line("c", new("Cell"))
        self.assertEqual(told.line(None, val(name("c"), "l")), ("value", "7", ['"l"']))
        self.assertEqual(told.line(None, val(name("c"), "l")), ("value", "7", []))
        self.assertEqual(told.line(None, val(name("o"), "w")), ("value", "2", ['"o"']))
        self.assertEqual(told.line(None, val(name("o"), "w")), ("value", "2", []))
        self.assertEqual(told.line("d", name("c")), ("value", "Cell()", []))
        self.assertEqual(told.line(None, op("=", name("c"), name("d"))), ("value", "yes", []))
        self.assertEqual(run(told.program(), 5000)[2], told.shown())

    def test_what_was_under_way_is_as_if_not_begun(self):
        bad = cls("Bad", lazy("l", INT, then(show(num(1)), val(THIS, "m"))), lazy("m", INT, then(show(num(2)), ("stop", "m"))),
                  lazy("r", INT, val(THIS, "r")), lazy("ok", INT, then(show(num(3)), num(4))))
        told = session(bad, obj("o", a_val("v", INT, then(show(text("o")), ("stop", "o")))), given("gi", INT, then(
            show(text("gi")), num(1))))
        told.line("b", new("Bad"))
        for _ in range(2):
            self.assertEqual(told.line(None, val(name("b"), "l")), ("stop", "m", ["1", "2"]))
        for _ in range(2):
            self.assertEqual(told.line(None, name("o")), ("stop", "o", ['"o"']))
        for _ in range(2):
            self.assertEqual(told.line(None, val(name("b"), "r")), ("round", "Bad r", []))
        # What is done stays.
        self.assertEqual(told.line(None, then(val(name("b"), "ok"), ("summon", INT), ("stop", "x"))), ("stop", "x", ["3", '"gi"']))
        self.assertEqual(told.line(None, op("+", val(name("b"), "ok"), ("summon", INT))), ("value", "5", []))

    def test_unready_within_a_line(self):
        early = cls("Early", a_val("v", INT, val(THIS, "w")), a_val("w", INT, num(1)))
        told = session(early)
        self.assertEqual(told.line("e", new("Early")), ("unready", "Early w", []))
        self.assertEqual(told[1], ("line", None, new("Early")))

    def test_undo_takes_things_back_too(self):
        told = session(self.CELL)
        told.line("c", new("Cell"))
        told.line(None, val(name("c"), "l"))
        told.undo()
        self.assertEqual(told.shown(), [])
        self.assertEqual(told.line(None, val(name("c"), "l")), ("value", "7", ['"l"']))
        self.assertEqual(told.line(None, val(name("c"), "l")), ("value", "7", []))
        told.undo()
        self.assertEqual(told.line(None, val(name("c"), "l")), ("value", "7", []))
        told.undo()
        told.undo()
        self.assertEqual(told.line(None, val(name("c"), "l")), ("value", "7", ['"l"']))

    def test_undo_of_what_hid(self):
        told = session()
        told.line("x", num(1))
        told.line("x", text("a"))
        told.undo()
        self.assertEqual(told.line(None, op("+", name("x"), num(1))), ("value", "2", []))

    def test_undo_of_definitions(self):
        told = session(*FISHES[:2])
        told.line("c", new("Cod"))
        told.define(FISHES[2])
        self.assertEqual(told.line(None, call(new("Cod", more=("Loud",)), "title")), ("value", '"cod!"', []))
        states = []
        while len(told):
            states.append(self.state(told))
            told.undo()
        for rows, program, shown in reversed(states):
            row = rows[-1]
            if row[0] == "line":
                told.line(row[1], row[2])
            else:
                told.define(row)
            self.assertEqual(self.state(told), (rows, program, shown))
        self.wrong(NothingToUndo, Session().undo)


class DefineTest(SessionCase):
    def test_behind_lines(self):
        told = session(FISHES[0])
        told.line("n", num(1))
        self.assertIsNone(told.define(FISHES[1]))
        self.assertEqual(told.line("c", new("Cod")), ("value", "Cod()", []))
        self.assertEqual(told.program(), (FISHES[:2], let("n", num(1), new("Cod"))))

    def test_that_would_change_the_kind_of_a_line(self):
        wide = extend("wide", ("x", ANY), a_def("put", INT, num(1)))
        narrow = extend("narrow", ("x", INT), a_def("put", TEXT, text("")))
        other = extend("other", ("x", INT), a_def("put", INT, num(2)))
        told = session(wide)
        told.line("n", call(num(1), "put"))
        told.line(None, num(5))
        state = self.state(told)
        self.not_let_by(("kind", ()), told.define, narrow)
        self.assertEqual(self.state(told), state)
        self.assertIsNone(told.define(other))
        # The line was worked as it was then; a further one as it is now.
        self.assertEqual(told.line(None, call(num(1), "put")), ("value", "2", []))
        self.assertEqual(told.line(None, name("n")), ("value", "1", []))
        told = session(wide)
        told.line("n", call(num(1), "put"))
        told.line("m", op("+", name("n"), num(1)))
        self.not_let_by(("kind", (1, 0)), told.define, narrow)
        told = session(wide)
        told.line("n", then(num(1), call(num(1), "put")))
        told.define(other)
        self.not_let_by(("ambiguous", (1,)), told.define, extend("third", ("x", INT), a_def("put", INT, num(2))))

    def test_errors(self):
        told = session(FISHES[0])
        state = self.state(told)
        for thing in (None, 5, (), [], "Fish", ("trait", "Fish"), list(FISHES[1]), FISHES, UNIT, num(1), trait("fish")):
            self.wrong(BadForm, told.define, thing)
        # The program would be none with it.
        self.wrong(BadForm, told.define, trait("Fish"))
        self.not_let_by(("lacking", ("o",)), told.define, obj("o", parents=(parent("Fish"),)))
        self.not_let_by(("class", ("Eel",)), told.define, cls("Eel", parents=(parent("Gone"),)))
        told.line("c", num(1))
        told.line("o", num(1))
        self.not_let_by(("name", ("P", "v")), told.define, cls("P", a_val("v", INT, name("c"))))
        told.undo()
        told.undo()
        self.assertEqual(self.state(told), state)


class ErrorsTest(SessionCase):
    def test_names_then_forms_then_checks(self):
        told = session(*FISHES)
        told.line("c", new("Cod"))
        state = self.state(told)
        for thing in NO_LINE_NAMES:
            self.wrong(BadName, told.line, thing, 5)
        for thing in NO_TREES:
            self.wrong(BadForm, told.line, "x", thing)
            self.wrong(BadForm, told.kind, thing)
        self.not_let_by(("name", ()), told.line, "x", name("lost"))
        self.not_let_by(("name", (1, 0)), told.line, None, then(num(1), show(name("lost"))))
        self.not_let_by(("kind", (1,)), told.line, None, op("+", num(1), call(name("c"), "title")))
        self.not_let_by(("kind", (1,)), told.kind, op("+", num(1), call(name("c"), "title")))
        self.not_let_by(("class", (0,)), told.line, "x", show(new("Eel")))
        self.not_let_by(("path", ()), told.line, "x", let("y", ("stop", ""), num(1), kind=part("c", "K")))
        self.assertEqual(self.state(told), state)

    def as_check(self, told, *lines):
        """Lines that are not let by, for what check tells of the program with them."""
        rows, program, shown = self.state(told)
        for e in lines:
            what = what_of_line(rows, e)
            self.not_let_by(what, told.line, None, e)
            self.not_let_by(what, told.line, "x", e)
            self.not_let_by(what, told.kind, e)
            self.assertEqual(self.state(told), (rows, program, shown))
        return what

    def test_news_that_give_a_super_no_body(self):
        bare = new("Tom", more=("Loud",))
        due = ("super", ("Loud", "title", 0))
        for names in ((), ("a",), ("a", None, "b")):
            told = session(*FISHES[:3], cls("Tom"))
            for x in names:
                told.line(x, num(1))
            for e in (bare, show(bare), let("y", bare, num(2)), then(num(1), show(bare)), fun_of(bare)):
                self.assertEqual(self.as_check(told, e), due)
            self.assertEqual(told.line(None, call(new("Cod", more=("Loud",)), "title")), ("value", '"cod!"', []))
        # kind_at alone tells it at the new.
        program = (FISHES[:3] + (cls("Tom"),), UNIT)
        self.assertEqual(kind_at(program, HERE, show(bare), None), ("super", (0,)))
        # The first super by definitions, and in its body.
        twice = trait("Twice", a_def("title", TEXT, op("join", text(""), op("join", above("title"), above("title")))),
                      parents=(parent("Fish"),))
        told = session(FISHES[0], twice, FISHES[2], cls("Tom"))
        told.line("a", num(1))
        self.assertEqual(self.as_check(told, then(bare, new("Tom", more=("Twice",)))), ("super", ("Twice", "title", 1, 0)))

    def test_what_goes_ahead_of_a_super(self):
        bare = new("Tom", more=("Loud",))
        told = session(*FISHES[:3], cls("Tom"), cls("Eel", parents=(parent("Fish"),)))
        told.line("a", num(1))
        told.line(None, num(1))
        self.assertEqual(self.as_check(told, then(bare, name("lost"))), ("name", (1,)))
        self.assertEqual(self.as_check(told, then(show(bare), new("Gone"))), ("class", (1,)))
        # What is found of a kind, and what is wrong with other news, comes later.
        self.assertEqual(self.as_check(told, op("+", text("a"), bare)), ("super", ("Loud", "title", 0)))
        self.assertEqual(self.as_check(told, then(new("Eel"), bare)), ("super", ("Loud", "title", 0)))
        self.assertEqual(self.as_check(told, then(new("Eel"), num(1))), ("lacking", (0,)))

    def test_lines_are_not_known_where_news_are_looked_at(self):
        # What a line of a name brings into reach has parts of which the parts of a new know nothing (12).
        told = session(cls("Hay"), cls("Cow", a_kind("Eats", ANY, of("Hay"))), trait("Get", a_def("get", A), kparams=PARAM_A),
                       cls("Cod", a_def("get", of("Hay"), new("Hay"))))
        told.line("c", new("Cow"))
        told.line("d", num(1))
        self.assertEqual(self.as_check(told, show(new("Cod", more=(("Get", (part("c", "Eats"),)),)))), ("override", (0,)))
        self.assertEqual(told.line(None, new("Cod", more=(("Get", (of("Hay"),)),))), ("value", "Cod()+Get", []))

    def test_a_kind_that_names_a_line(self):
        told = session(*CAGES)
        told.line("c", ("let", "k", of("Animal"), new("Cow"), name("k")))
        self.assertEqual(told.kind(val(name("c"), "best")), part("c", "Eats"))
        self.not_let_by(("leaves", ()), told.line, "b", val(name("c"), "best"))
        self.assertEqual(told.line(None, call(name("c"), "eat", val(name("c"), "best"))), ("value", "()", []))
        # It is made plain, where it is something else then.
        told.line("d", new("Cow"))
        self.assertEqual(told.kind(call(name("keeper"), "best", name("d"))), part("d", "Eats"))
        self.assertEqual(told.line("e", call(name("keeper"), "best", name("d"))), ("value", "Hay()", []))
        self.assertIsNone(check(told.program()))
        self.assertEqual(told.line(None, name("e")), ("value", "Hay()", []))

    def test_a_program_that_would_be_none(self):
        told = Session()
        deep = ("unit",)
        for _ in range(15):
            deep = show(deep)
        for at in range(4):
            told.line("x", num(at))
        told.line(None, deep)
        # In the sixth place it would be twenty-one within one another.
        self.wrong(BadForm, told.line, None, deep)
        self.wrong(BadForm, told.kind, deep)
        told.undo()
        self.assertEqual(told.kind(deep), UNIT)
        told = Session()
        wide = num(1)
        for at in range(6):
            wide = op("+", wide, num(1))
        for at in range(4):
            told.line(None, wide)
        told.line(None, num(1))
        told.line(None, num(1))
        # Four of thirteen trees, two of one, and five thens: fifty-nine.
        self.assertIsNone(check(told.program()))
        self.wrong(BadForm, told.line, None, num(1))
        self.wrong(BadForm, told.define, trait("T", *[a_def("f" + str(at), INT) for at in range(13)]))

    def test_twelve_in_force(self):
        told = Session()
        for at in range(6):
            told.define(trait("T" + str(at)))
            told.line(None, num(at))
        self.assertEqual(len(told), 12)
        state = self.state(told)
        self.wrong(Full, told.define, trait("T9"))
        self.wrong(Full, told.line, None, show(num(1)))
        self.wrong(BadForm, told.define, trait("T1"))
        self.wrong(BadForm, told.define, 5)
        self.wrong(NotLetBy, told.define, obj("o", parents=(parent("Gone"),)))
        self.wrong(BadName, told.line, "X", num(1))
        self.wrong(BadForm, told.line, None, 5)
        self.wrong(NotLetBy, told.line, None, name("x"))
        self.assertEqual(told.kind(num(1)), INT)
        self.assertEqual(self.state(told), state)
        told.undo()
        self.assertIsNone(told.define(trait("T9")))

    def test_numbers(self):
        told = session(trait("T"))
        told.line(None, num(1))
        self.assertEqual((told[0], told[1]), (trait("T"), ("line", None, num(1))))
        for thing in (2, -1, None, True, False, "0", (), [], slice(0, 1), (0,), 10 ** 30):
            with self.assertRaises(BadNumber):
                told[thing]
        with self.assertRaises(BadNumber):
            Session()[0]

    def test_by_the_interfaces_names(self):
        told = Session()
        told.define(definition=trait("T"))
        self.assertEqual(told.line(name="x", e=num(1)), ("value", "1", []))
        self.assertEqual(told.kind(e=name("x")), INT)


class EqualTest(SessionCase):
    def test_equal_sessions(self):
        one, other = session(trait("T")), session(trait("T"))
        self.assertTrue(one == other and not one != other)
        one.line("x", num(1))
        self.assertTrue(one != other and not one == other)
        other.line("y", num(1))
        self.assertFalse(one == other)
        other.undo()
        other.line("x", num(1))
        self.assertTrue(one == other)
        # Nothing else counts: what was taken back, or when.
        other.line("x", show(num(2)))
        other.undo()
        self.assertTrue(one == other)
        self.assertFalse(session(trait("T"), trait("U")) == session(trait("U"), trait("T")))
        for thing in (None, 5, [trait("T")], (), "x", ((), UNIT)):
            self.assertFalse(Session() == thing)
            self.assertTrue(Session() != thing)
        self.assertTrue(Session() == Session())

    def test_copies_go_their_own_way(self):
        told = session(LeftTest.CELL)
        told.line("c", new("Cell"))
        other = told.copy()
        self.assertTrue(other == told)
        self.assertEqual(other.line(None, val(name("c"), "l")), ("value", "7", ['"l"']))
        self.assertEqual((len(told), told.shown()), (2, []))
        self.assertEqual(told.line(None, val(name("c"), "l")), ("value", "7", ['"l"']))
        self.assertTrue(other == told)
        third = told.copy()
        self.assertEqual(third.line(None, val(name("c"), "l")), ("value", "7", []))
        third.undo()
        third.undo()
        self.assertEqual(len(told), 3)
        told.undo()
        self.assertTrue(third == told)
        self.assertEqual(third.shown(), [])


class WildTest(SessionCase):
    def test_the_program_does_the_same(self):
        lines = 0
        for seed in range(120):
            wild = Wild(seed)
            definitions, _ = wild.program()
            told, names, every = Session(), {}, True
            left = list(definitions)
            for _ in range(3):
                for definition in list(left):
                    try:
                        told.define(definition)
                        left.remove(definition)
                    except (NotLetBy, Full, BadForm):
                        pass
            for at in range(6):
                kind = wild.pick([INT, TEXT, fun(INT, INT)] + [of(one) for one in wild.rows])
                x = wild.pick([None, "a1", "a2"])
                e = wild.body(kind, names, None, 3, 12)
                state = self.state(told)
                try:
                    outcome = told.line(x, e)
                except (NotLetBy, Full, BadForm) as error:
                    self.assertEqual(self.state(told), state)
                    if isinstance(error, NotLetBy):
                        self.assertEqual(error.what, what_of_line(state[0], e))
                    continue
                lines += 1
                every = every and outcome[0] == "value"
                if outcome[0] == "value" and x:
                    names[x] = kind
                told_all = run(told.program(), 5000)
                if every and told_all[0] not in ("steps", "deep"):
                    self.assertEqual(told_all, ("value", outcome[1], told.shown()))
                again = told.copy()
                again.undo()
                self.assertEqual(self.state(again), state)
                self.assertEqual(again.line(x, e), outcome)
                self.assertTrue(again == told and again.shown() == told.shown())
        self.assertGreater(lines, 50)


if __name__ == "__main__":
    unittest.main()
