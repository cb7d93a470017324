"""Programs as texts: point 7."""

import random
import unittest

from linearmix.errors import BadForm, BadText
from linearmix.texts import read_program, write_program
from samples import (FULL, FULL_TEXT, UNIT, a_class, an_object, deep_kind, deep_pattern,
                     deep_tree, many_trees, small_names, with_definitions, with_kind,
                     with_main, with_pattern)

# {} is where the thing of the sort stands in a program's text.
IN_MAIN = "(() {})"
IN_KIND = "(() (summon {}))"
IN_PATTERN = "(() (match (unit) (({} (unit)))))"
IN_DEFINITION = "(({}) (unit))"
IN_MEMBER = "(((object o () ({}))) (unit))"
IN_EXTENSION = "(((extend e () (x (int)) () ({}))) (unit))"


class TextTest(unittest.TestCase):
    def told(self, text, place):
        with self.assertRaises(BadText) as caught:
            read_program(text)
        self.assertEqual(caught.exception.place, place, text)

    def told_at_sign(self, marked):
        """The text without its one @ is told where the @ was."""
        self.assertEqual(marked.count("@"), 1, marked)
        self.told(marked.replace("@", ""), marked.index("@"))

    def told_at_end(self, text):
        self.told(text, len(text))


class WriteTest(TextTest):
    def test_word_for_word(self):
        for program, text in (
                (FULL, FULL_TEXT),
                (with_main(("op", "<", ("int", 1), ("int", 2))), "(() (op < (int 1) (int 2)))"),
                (with_main(UNIT), "(() (unit))"),
                (with_main(("text", "")), '(() (text ""))'),
                (with_main(("text", " a  b ")), '(() (text " a  b "))'),
                (with_main(("text", "(yes)")), '(() (text "(yes)"))'),
                (with_main(("text", "int")), '(() (text "int"))'),
                (with_main(("stop", "-0")), '(() (stop "-0"))'),
                (with_main(("int", -7)), "(() (int -7))"),
                (with_main(("int", 0)), "(() (int 0))"),
                (with_main(("int", 10 ** 59)), "(() (int 1" + "0" * 59 + "))"),
                (with_main(("truth", True)), "(() (truth yes))"),
                (with_main(("truth", False)), "(() (truth no))"),
                (with_main(("op", "-", UNIT, UNIT)), "(() (op - (unit) (unit)))"),
                (with_main(("super", "f", None, (), None)), "(() (super f none0 () none0))"),
                (with_definitions(a_class(kparams=(("K", "", ("any",)), ("L", "-", ("any",))))),
                 "(((class A ((K -0 (any)) (L - (any))) () () () no)) (unit))"),
                (with_pattern(("lit", ("text", ""))),
                 '(() (match (unit) (((lit (text "")) (unit)))))')):
            self.assertEqual(write_program(program), text)
            self.assertEqual(read_program(text), program)

    def test_true_and_one_are_told_apart(self):
        self.assertIs(read_program("(() (truth yes))")[1][1], True)
        self.assertIs(type(read_program("(() (int 1))")[1][1]), int)

    def test_no_program(self):
        for thing in (None, "", "(() (unit))", [(), UNIT], ((), ["unit"]), with_main(("int", True)),
                      with_main(deep_tree(21)), ()):
            with self.assertRaises(BadForm):
                write_program(thing)

    def test_what_is_longer_is_written(self):
        full = many_trees(60)
        program = (tuple(("given", name, (), (), ("int",), full)
                         for name in small_names(20)), full)
        objects = tuple(
            ("object", "o" + name, (), tuple(("val", x, deep_kind(6), full)
                                             for x in small_names(12)))
            for name in small_names(20))
        self.assertEqual(read_program(write_program(program)), program)
        text = write_program((objects, UNIT))
        self.assertGreater(len(text), 20000)
        self.told(text, -1)

    def test_by_the_names_of_the_interface(self):
        self.assertEqual(write_program(program=with_main(UNIT)), "(() (unit))")
        self.assertEqual(read_program(text="(() (unit))"), with_main(UNIT))


class ReadTest(TextTest):
    def test_no_such_str(self):
        for thing in (None, 5, b"(() (unit))", FULL, [], True, "(()\t(unit))", "(() (unit))\r",
                      "(() (unit))\x7f", "(() (text \"\u00e4\"))", "\u00a0", "\x00"):
            self.told(thing, -1)

    def test_twenty_thousand_characters(self):
        text = FULL_TEXT + " " * (20000 - len(FULL_TEXT))
        self.assertEqual(read_program(text), FULL)
        self.told(text + " ", -1)
        self.told("(" * 20001, -1)
        self.told_at_end("(()" + "\n" * 19997)

    def test_blanks_and_line_feeds(self):
        text = "(() (text \"a  b\"))"
        self.assertEqual(read_program("\n \n" + text + " \n"), read_program(text))
        wide = FULL_TEXT.replace("(", "\n ( ").replace(")", "  ) \n ")
        wide = wide.replace("no '\n", "no '").replace("  a b", "a b")
        self.assertEqual(read_program(wide), FULL)
        for blank in (" ", "\n", "   ", "\n\n", " \n "):
            self.assertEqual(read_program(in_words(FULL_TEXT, blank)), FULL)

    def test_no_blanks_beside_parentheses_and_quotes(self):
        self.assertEqual(read_program("(()(op <(int 1)(int 2)))"),
                         read_program("(() (op < (int 1) (int 2)))"))
        self.assertEqual(read_program('(()(text"a b"))'), with_main(("text", "a b")))
        tight = FULL_TEXT
        for mark in "()":
            tight = tight.replace(" " + mark, mark).replace(mark + " ", mark)
        self.assertLess(len(tight), len(FULL_TEXT))
        self.assertEqual(read_program(tight.replace('text "', 'text"').replace('stop "', 'stop"')),
                         FULL)

    def test_cut_off_at_any_place(self):
        for text in (FULL_TEXT, in_words(FULL_TEXT, " \n"), '(() (text "' + "a" * 40 + '"))',
                     "(() (int -" + "1" * 60 + "))", "(() (name abcdefghijkl))"):
            for place in range(len(text)):
                self.told(text[:place], place)

    def test_too_short_at_all(self):
        for text in ("", " ", "\n", "(", "((", "(()", "(() ", "(() (unit)", "(() (unit) "):
            self.told_at_end(text)

    def test_behind_the_end(self):
        for marked in ("(() (unit))@)", "(() (unit))  @(", "(() (unit))\n@x", "(() (unit)) @(() (unit))",
                       '(() (unit))@"', "(() (unit)) @5 ", "(() (unit))@no"):
            self.told_at_sign(marked)

    def test_what_is_no_tuple_where_one_has_to_be(self):
        for marked in ("@x", "@)", '@"', "@yes", "(@x", "(@) (unit))", "(@none0 (unit))", "(() @)",
                       "(() @unit)", "(() @5)", "(() @none0)", '(() @"a")', "(() @none", "(() @yes"):
            self.told_at_sign(marked)
        for inner in ("(show @x)", "(show @none0)", "(show @)", "(let a @b (unit) (unit))",
                      "(let a @no (unit) (unit))", "(let a @none (unit) (unit))",
                      "(call (unit) f none0 @none0 none0)", "(call (unit) f none0 () @)",
                      "(lazy a @none0 (unit) (unit))", "(new @none0)", "(new (@A))",
                      "(match (unit) @any)", "(match (unit) ((@any (unit))))"):
            self.told_at_sign(IN_MAIN.format(inner))

    def test_too_few_and_too_many(self):
        for inner in ("(@)", "(unit @5)", "(unit @())", "(unit @\"a\")", "(int@)", "(int 1 @2)",
                      "(name a @b)", "(show (unit) @(unit))", "(if (unit) (unit)@)",
                      "(op + (unit)@)", "(op + (unit) (unit) @none0)", "(new (@))",
                      "(new ((A ()@)))", "(new ((A () () @())))", "(match (unit) (@))",
                      "(match (unit) (((any)@)))", "(match (unit) (((any) (unit) @(unit))))",
                      "(fun ((a@)) (unit))", "(fun ((a (int) @no)) (unit))", "(let a none0 (unit)@)",
                      "(summon (with ((int)@)))", "(summon (with (@)))", "(summon (part (@) A))",
                      "(summon (part (a b c @d) A))", "(summon (part (a b c @this) A))",
                      "(new ((A () ()) (B () (@(unit)))))", "(new ((A () ()) (B () (@x))))"):
            self.told_at_sign(IN_MAIN.format(inner))
        for marked in ("(() (unit) @(unit))", "(() (unit) @none0)", "(() @)"):
            self.told_at_sign(marked)


def in_words(text, blank):
    """The text with something else for each blank that parts words."""
    pieces = text.split('"')
    return '"'.join(piece if at % 2 else piece.replace(" ", blank)
                    for at, piece in enumerate(pieces))


class WordsTest(TextTest):
    def told_each(self, frame, words):
        """Each word is told at its first character, also where the text ends behind it."""
        for word in words:
            self.told_at_sign(frame.format("@" + word))
        start = frame[:frame.index("{}")]
        for word in words:
            self.told_at_sign(start + "@" + word + " ")

    def test_first_words(self):
        self.told_each("(() ({}))", ("kind", "case", "none", "Unit", "un", "unit1", "var", "5",
                                     "yes", "none0", "-0", "-", "a", '"unit"', "any", "bind"))
        self.told_each("(() (summon ({})))", ("name", "object", "trait", "lit", "al", "of1", "Fun"))
        self.told_each("(() (match (unit) ((({}) (unit)))))", ("int", "var", "new", "bin", "none"))
        self.told_each("(() (match (unit) (((lit ({})) (unit)))))", ("unit", "name", "stop", "lit"))
        self.told_each("((({} A)) (unit))", ("def", "val", "kind", "traits", "Class", "super"))
        self.told_each("(((object o () (({} a)))) (unit))", ("class", "extend", "object", "vals"))
        self.told_each("(((extend e () (x (int)) () (({} a)))) (unit))",
                       ("val", "lazy", "kind", "given", "de"))

    def test_cut_words(self):
        for start in ("(() (", "(() (o", "(() (op", "(() (op j", "(() (op a", "(() (op <",
                      "(() (supe", "(() (summon (no", "(() (match (unit) (((i", "(((", "(((t", "(((o",
                      "(() (match (unit) (((lit (t", "(((extend e () (x (int)) () ((d",
                      "(((object o () ((la", "(() (truth y", "(() (truth no", "(((class A ((K -",
                      "(((given g ((K -", "(((given g ((K -0", "(() (let a n", "(() (let a none0",
                      "(() (name thi", "(() (name this", "(() (name abcdefghijkl", "(() (name yes",
                      "(() (summon (var Ab", "(() (summon (of a", "(() (summon (part (th",
                      "(() (summon (part (this", "(() (summon (part (a this"):
            self.told_at_end(start)

    def test_cut_words_that_can_not_become_right(self):
        for marked in ("(() (@x", "(() (@opx", "(() (@Op", "(() (op @jx", "(() (op @<=", "(() (op @/",
                       "(() (op @no", "(() (truth @t", "(() (truth @yess", "(() (truth @1",
                       "(((class A ((K @-1", "(((class A ((K @0", "(((given g ((K @+",
                       "(((given g ((K @-00", "(() (let a @m", "(() (let a @none00", "(() (name @A",
                       "(() (name @a_", "(() (name @1", "(() (name @-", "(() (name @abcdefghijklm",
                       "(() (summon (var @a", "(() (summon (var @5", "(() (summon (of @+",
                       "(() (int @00", "(() (int @-0", "(() (int @-01", "(() (int @" + "9" * 61,
                       "(() (int @1a", "(() (summon (part (@This", "(() (new ((@a", "(((class @a", "(((object @A"):
            self.told_at_sign(marked)

    def test_names(self):
        for word in ("this", "yes", "no", "none0", "super", "join", "int", "object", "abcdefghijklm",
                     "A", "1a", "a_b", "a.b", "-a", "5", "-0", '"a"', '""', "a'", "+"):
            for inner in ("(name @{})", "(val (unit) @{})", "(let @{} none0 (unit) (unit))",
                          "(call (unit) @{} none0 () none0)", "(fun ((@{} (int))) (unit))",
                          "(match (unit) (((bind @{}) (unit))))", "(super @{} none0 () none0)",
                          "(summon (part (a @{}) A))"):
                self.told_at_sign(IN_MAIN.format(inner.format(word)))
        for word in ("a", "any", "Abcdefghijklm", "1", "A_", "A-0", "-0", '"A"', "none0"):
            for inner in ("(summon (var @{}))", "(summon (part (this) @{}))", "(new ((@{} () ())))"):
                self.told_at_sign(IN_MAIN.format(inner.format(word)))

    def test_a_name_ends_at_a_quote(self):
        self.told_at_sign('(() (name a@"b"))')
        self.told_at_sign('(() (text @a"b"))')
        self.told_at_sign('(() (text "a"@b))')
        self.told_at_sign('(() (text "a"@"b"))')
        self.told_at_sign('(() (show@"a"))')

    def test_signs_and_truths(self):
        self.told_each("(((class A ((K {} (any))) () () () no)) (unit))", ("++", "*", "0", "-1", '""'))
        self.told_each("(((extend e ((K {} (any))) (x (int)) () ())) (unit))", ("+", "--", "no"))
        self.told_at_sign("(((extend e ((K @- (any))) (x (int)) () ())) (unit))")
        self.told_at_sign(IN_MEMBER.format("(def f ((K @- (any))) () () (int) none0)"))
        self.told_each("(((class A () () () () {})) (unit))", ("true", "1", "none0", "noo", '"no"'))
        self.told_each("(() (truth {}))", ("True", "0", "none0", "yes1", '"yes"'))
        self.told_each("(() (op {} (unit) (unit)))", ("<=", "plus", "++", "-0", "-5", '"+"', "then"))

    def test_what_may_be_none_and_what_not(self):
        self.told_each("(() (let a {} (unit) (unit)))", ("none1", "no0", "yes", "-0", '"none0"', "0"))
        for frame, inner in ((IN_EXTENSION, "(def f () () () (int) @none0)"),
                             (IN_MEMBER, "(lazy f (int) @none0)"),
                             (IN_MEMBER, "(given f (int) @none0)"),
                             (IN_MEMBER, "(kind F @none0 none0)"),
                             (IN_DEFINITION, "(given f () () (int) @none0)"),
                             (IN_DEFINITION, "(trait T @none0 () () no)")):
            self.told_at_sign(frame.format(inner))
        self.told_at_sign("(((extend e () (x (int)) () ((def f () () () (int) @n")

    def test_numbers(self):
        for word in ("0", "7", "-7", "10", "9" * 60, "-" + "9" * 60):
            self.assertEqual(read_program("(() (int " + word + "))"), with_main(("int", int(word))))
        for word in ("-", "9" * 60, "-" + "9" * 60, "0", "-1"):
            self.told_at_end("(() (int " + word)
        self.told_each("(() (int {}))", ("00", "01", "-01", "-0", "--1", "+1", "1a", "a", "1-", "1.0",
                                         "9" * 61, "-" + "9" * 61, '"1"', "yes", "none0", "1_0"))
        self.told_at_sign("(() (int @-))")
        self.told_at_sign("(() (int @- 5))")

    def test_texts(self):
        for text in ("", " ", "~", "a  b", "(", ")", "yes", "-0", "'", "a" * 40):
            self.assertEqual(read_program('(() (text "' + text + '"))'), with_main(("text", text)))
            self.assertEqual(read_program('(() (stop "' + text + '"))'), with_main(("stop", text)))
            self.told_at_end('(() (text "' + text)
            self.told_at_end('(() (text "' + text + '"')
        for text in ("\n", "a\nb", "\\", "a" * 41, "(\n"):
            self.told_at_sign('(() (text @"' + text + '"))')
            self.told_at_sign('(() (text @"' + text)
        for marked in ("(() (text @a))", "(() (text @yes))", "(() (text @5))", "(() (text@))",
                       "(() (text @-0))", "(() (text @a", "(() (text @()))", '(() (@"text" "a"))',
                       '(() (@"text', '(() (name @"a', '(() (int @"5', '(() (show @"', '(@"'):
            self.told_at_sign(marked)


class BoundsTest(TextTest):
    """What is one too many, or twice, is told at its first character."""

    def test_definitions(self):
        objects = " ".join("(object " + name + " () ())" for name in small_names(20))
        self.assertEqual(len(read_program("((" + objects + ") (unit))")[0]), 20)
        self.told_at_sign("((" + objects + " @(object a () ())) (unit))")
        self.told_at_sign("((" + objects + " @(")
        self.told_at_sign("((" + objects + " @x")
        self.told_at_end("((" + objects)

    def test_lists(self):
        kparams = " ".join("(" + x.upper() + " -0 (any))" for x in small_names(6))
        smalls = " ".join("(" + x + " (int))" for x in small_names(6))
        params = " ".join("(" + x + " (int) no)" for x in small_names(6))
        vals = " ".join("(val " + x + " (int) none0)" for x in small_names(12))
        defs = " ".join("(def " + x + " () () () (int) (unit))" for x in small_names(12))
        parents = " ".join(["(A () ())"] * 6)
        for marked in (
                "(((class A (" + kparams + " @(Z -0 (any))) () () () no)) (unit))",
                "(((trait A (" + kparams + "@(Z -0 (any))) () () no)) (unit))",
                "(((given a (" + kparams + "@(Z -0 (any))) () (int) (unit))) (unit))",
                "(((extend a (" + kparams + "@(Z -0 (any))) (x (int)) () ())) (unit))",
                "(((class A () (" + smalls + " @(z (int))) () () no)) (unit))",
                "(((given a () (" + smalls + " @(z (int))) (int) (unit))) (unit))",
                "(((extend a () (x (int)) (" + smalls + " @(z (int))) ())) (unit))",
                "(((class A () () (" + parents + " @(B () ())) () no)) (unit))",
                "(((object a (" + parents + " @B) ())) (unit))",
                "(((object a () (" + vals + " @(val z (int) none0)))) (unit))",
                "(((object a () (" + vals + " @(",
                "(((extend a () (x (int)) () (" + defs + " @(def z () () () (int) (unit))))) (unit))",
                IN_MEMBER.format("(def f (" + kparams + " @(Z -0 (any))) () () (int) none0)"),
                IN_MEMBER.format("(def f () (" + params + " @(z (int) no)) () (int) none0)"),
                IN_MEMBER.format("(def f () () (" + smalls + " @(z (int))) (int) none0)"),
                IN_MAIN.format("(fun (" + smalls + " @(z (int))) (unit))")):
            self.told_at_sign(marked)
            wrong = marked.index("@")
            self.told_at_end(marked[:wrong].rstrip())

    def test_lists_in_trees(self):
        units = "(unit) " * 6
        for marked in (
                IN_MAIN.format("(apply (unit) (" + units + "@(unit)))"),
                IN_MAIN.format("(call (unit) f none0 (" + units + "@(unit)) none0)"),
                IN_MAIN.format("(super f none0 (" + units + "@(unit)) none0)"),
                IN_MAIN.format("(new ((A () (" + units + "@(unit)))))"),
                IN_MAIN.format("(call (unit) f none0 () (" + units * 2 + "@(unit)))"),
                IN_MAIN.format("(super f none0 () (" + units * 2 + "@(unit)))"),
                IN_MAIN.format("(call (unit) f (" + units + "@(unit)) () none0)"),
                IN_MAIN.format("(super f (" + units + "@(unit)) () none0)"),
                IN_MAIN.format("(new ((A (" + units + "@(unit)) ())))"),
                IN_MAIN.format("(new (" + "(A () ()) " * 6 + "@(A () ())))"),
                IN_MAIN.format("(match (unit) (" + "((any) (unit)) " * 8 + "@((any) (unit))))"),
                IN_KIND.format("(of A (" + units + "@(unit)))"),
                IN_KIND.format("(fun (" + units + "@(unit)) (unit))"),
                IN_KIND.format("(with (" + units + "@(unit)))"),
                IN_PATTERN.format("(of A (" + "(any) " * 6 + "@(any)))")):
            self.told_at_sign(marked)
            self.told_at_end(marked[:marked.index("@")])

    def test_depth_is_told_where_it_is_passed(self):
        for deep in (deep_tree(21), deep_tree(30)):
            text = written(deep)
            self.told(IN_MAIN.format(text), 4 + 20 * len("(show "))
        text = IN_KIND.format(written(deep_kind(7)))
        self.told(text, text.index("(of") + 6 * len("(of Box ("))
        text = IN_PATTERN.format(written(deep_pattern(20)))
        self.told(text, text.index("(of") + 19 * len("(of Box ("))
        self.told_at_end(IN_PATTERN.format(written(deep_pattern(19)))[:-1])

    def test_depth_is_not_told_ahead(self):
        start = "(() " + "(show " * 19
        self.told_at_end(start + "(show")
        self.told_at_sign(start + "(show @(")
        self.told_at_end("(() (summon " + "(of A (" * 5 + "(with (")
        self.told_at_sign("(() (summon " + "(of A (" * 5 + "(with (@(int")

    def test_sixty_trees(self):
        text = IN_MAIN.format(written(many_trees(61)))
        places = [at for at in range(len(text)) if text.startswith(("(unit)", "(apply"), at)]
        self.told(text, places[60])
        cases = "((any) (unit)) " * 7
        start = "(() (match " + written(many_trees(44)) + " (" + cases
        self.told_at_sign(start + "((any) @(unit))))")
        self.told_at_sign("(() (match " + written(many_trees(45)) + " (" + cases + "(@(any) (unit))))")
        self.told_at_end(start + "((any) ")
        self.told_at_end("(() (match " + written(many_trees(43)) + " (" + cases + "((lit (int 1)) (unit")

    def test_each_expression_has_its_own_sixty(self):
        full = written(many_trees(60))
        self.told_at_end("(((object a ((B () (" + full + full + "))) ((val b (int) " + full + ")")

    def test_names_that_are_taken(self):
        for marked in (
                "(((object a () ()) (object @a () ())) (unit))",
                "(((class A () () () () no) (trait @A () () () no)) (unit))",
                "(((object a () ()) (given @a () () (int) (unit))) (unit))",
                "(((class A ((K -0 (any)) (@K -0 (any))) () () () no)) (unit))",
                "(((given a ((K -0 (any)) (@K -0 (any))) () (int) (unit))) (unit))",
                "(((extend a ((K -0 (any)) (@K -0 (any))) (x (int)) () ())) (unit))",
                "(((class A () ((a (int)) (@a (int))) () () no)) (unit))",
                "(((class A () ((a (int))) () ((val @a (int) none0)) no)) (unit))",
                "(((trait A ((K -0 (any))) () ((kind @K (any) none0)) no)) (unit))",
                IN_MEMBER.format("(val a (int) none0) (lazy @a (int) (unit))"),
                IN_MEMBER.format("(def f ((K -0 (any)) (@K -0 (any))) () () (int) none0)"),
                "(((trait A ((K -0 (any))) () ((def f ((@K -0 (any))) () () (int) none0)) no)) (unit))",
                "(((extend e ((K -0 (any))) (x (int)) () "
                "((def f ((@K -0 (any))) () () (int) (unit))))) (unit))",
                IN_EXTENSION.format("(def f () () () (int) (unit)) (def @f () () () (int) (unit))")):
            self.told_at_sign(marked)
            wrong = marked.index("@")
            name_end = wrong + 2
            self.told_at_end(marked[:name_end].replace("@", ""))

    def test_a_taken_name_that_could_go_on(self):
        self.told_at_end("(((object abc () ()) (object ab")
        self.told_at_end("(((object abc () ()) (object abc")
        long = "abcdefghijkl"
        self.told_at_end("(((object " + long + " () ()) (object " + long[:11])
        self.told_at_sign("(((object " + long + " () ()) (object @" + long)
        self.told_at_end("(((object " + long + " () ()) (object " + long[:11] + "m")

    def test_names_that_are_not_taken(self):
        one = ("K", "", ("any",))
        program = with_definitions(
            a_class(kparams=(one,)), an_object("k"),
            a_class("B", members=(("kind", "K", ("any",), None),
                                  ("def", "f", (one,), (), (), UNIT, None),
                                  ("def", "g", (one,), (), (), UNIT, None))))
        self.assertEqual(read_program(write_program(program)), program)


def written(part):
    """The text of a tree, kind or pattern, by way of a plain program."""
    if isinstance(part, tuple):
        return "(" + " ".join(written(inner) for inner in part) + ")"
    return {None: "none0"}.get(part, str(part))


class MixedTextsTest(TextTest):
    def test_places_of_texts_that_are_changed_by_chance(self):
        """Up to a place that is told, the text can go on; so that alone ends it too early."""
        chance = random.Random(7)
        pieces = ["(", ")", " ", "\n", '"', "a", "A", "-", "0", "none0", "yes", "()", "(unit)", "-0"]
        for _ in range(3000):
            text = FULL_TEXT
            for _ in range(chance.choice((1, 1, 2))):
                at = chance.randrange(len(text))
                text = text[:at] + chance.choice(pieces) + text[at + chance.randrange(3):]
            try:
                program = read_program(text)
            except BadText as error:
                place = error.place
                self.assertTrue(0 <= place <= len(text))
                self.assert_can_go_on(text, place)
            else:
                self.assertEqual(read_program(write_program(program)), program)

    def assert_can_go_on(self, text, place):
        try:
            read_program(text[:place])
        except BadText as error:
            self.assertEqual(error.place, place, text)


if __name__ == "__main__":
    unittest.main()
