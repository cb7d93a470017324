"""Sessions: definitions and lines that are added, and taken back."""

from linearmix.atoms import is_big, is_integer, is_name
from linearmix.errors import BadForm, BadName, BadNumber, Full, NothingToUndo, NotLetBy
from linearmix.faults import Fault
from linearmix.finding import Finder, leaving
from linearmix.makers import Makers, news_in
from linearmix.model import Model
from linearmix.rounds import first_fault
from linearmix.scopes import outward
from linearmix.scripts import Script
from linearmix.sites import main_scope
from linearmix.trees import is_form, need_form
from linearmix.world import Line, World

ROWS_MOST = 12


def program_of(rows):
    """The program with the definitions of rows, whose main does the lines of these."""
    lines = [row for row in rows if row[0] == "line"]
    main = lines[-1][2] if lines else ("unit",)
    for _, name, e in reversed(list(lines[:-1])):
        main = ("then", e, main) if name is None else ("let", name, None, e, main)
    return (tuple([row for row in rows if row[0] != "line"]), main)


def need_program_of(rows):
    """Raises BadForm, if rows make no program."""
    if not is_form("program", program_of(rows)):
        raise BadForm("the program would be none with it")


def script_of(rows):
    """The script of the program that rows make; NotLetBy, if it is not let by."""
    try:
        script = Script(program_of(rows))
    except Fault as fault:
        raise NotLetBy((fault.word, fault.where)) from None
    return script


def where_in_last(where, many):
    """A place in main within the line behind so many, or one in a definition, where a super is told, as it is."""
    return where if where and isinstance(where[0], str) else where[many:]


def line_nodes(script, many):
    """The found trees of so many lines in the main of a script."""
    nodes = []
    rest = script.bodies[()]
    for _ in range(many - 1):
        nodes.append(rest.parts[0])
        rest = rest.parts[1]
    return nodes + [rest] if many else []


def line_kinds(script, many):
    """The kinds that are found for so many lines in the main of a script."""
    return [outward(node.kind) for node in line_nodes(script, many)]


class Session:
    """Definitions and lines, in the sequence in which they were added."""

    def __init__(self):
        self.rows = []
        self.lines = []
        self.script = Script(((), ("unit",)))
        self.world = World()

    def define(self, definition):
        """Adds a definition."""
        need_form("definition", definition)
        rows = self.rows + [definition]
        need_program_of(rows)
        script = script_of(rows)
        many = len(self.lines)
        if line_kinds(script, many) != line_kinds(self.script, many):
            raise NotLetBy(("kind", ()))
        self.need_room()
        self.rows = rows
        self.script = script

    def line(self, name, e):
        """Adds an expression, which is worked now; its outcome, with what this line showed."""
        if name is not None and (not is_name(name) or is_big(name)):
            raise BadName("the object is no name that a line may have")
        need_form("tree", e)
        rows = self.rows + [("line", name, e)]
        need_program_of(rows)
        scope = self.scope_here()
        node = self.found_here(rows, scope)
        try:
            leaving(node.kind, scope, main_scope(scope.model), ())
        except Fault:
            raise NotLetBy(("leaves", ())) from None
        script = script_of(rows)
        self.need_room()
        line = Line(name, node, self.script)
        word, told = self.world_here().worked(line)
        if word != "value":
            line.name = None
            rows = self.rows + [("line", None, e)]
            script = script_of(rows)
        self.rows = rows
        self.script = script
        self.lines = self.lines + [line]
        return (word, told, list(line.texts))

    def undo(self):
        """Takes back the last that has not been taken back."""
        if not self.rows:
            raise NothingToUndo("nothing is in force")
        if self.rows[-1][0] == "line":
            self.lines = self.lines[:-1]
            self.world = None
        self.rows = self.rows[:-1]
        self.script = script_of(self.rows)

    def program(self):
        """The program with the definitions, whose main does the lines."""
        return program_of(self.rows)

    def kind(self, e):
        """The kind that is found for an expression behind the lines."""
        need_form("tree", e)
        rows = self.rows + [("line", None, e)]
        need_program_of(rows)
        return outward(self.found_here(rows, self.scope_here()).kind)

    def shown(self):
        """What the lines showed."""
        return [text for line in self.lines for text in line.texts]

    def copy(self):
        """An equal one that goes its own way."""
        other = Session()
        other.rows = self.rows
        other.lines = self.lines
        other.script = self.script
        other.world = None
        return other

    def need_room(self):
        """Raises Full, if no more may be in force."""
        if len(self.rows) == ROWS_MOST:
            raise Full("no more may be in force")

    def scope_here(self):
        """What is in reach behind the lines."""
        if not self.lines:
            return main_scope(self.script.model)
        node = line_nodes(self.script, len(self.lines))[-1]
        name = self.lines[-1].name
        return node.scope if name is None else node.scope.with_name(name, "value", node.kind)

    def found_here(self, rows, scope):
        """The found tree of the expression of the last row, a line; NotLetBy, if it is not let by."""
        told = first_fault(Model(program_of(rows)))
        if told is not None:
            raise NotLetBy((told[0], where_in_last(told[1], len(self.lines))))
        e = rows[-1][2]
        try:
            node = Finder(Makers(scope.model, news_in("tree", e))).seek(e, None, scope, ())
        except Fault as fault:
            raise NotLetBy((fault.word, fault.where)) from None
        return node

    def world_here(self):
        """The world behind the lines, which are worked anew, if one was taken back."""
        if self.world is None:
            self.world = World()
            for line in self.lines:
                self.world.worked(line)
        return self.world

    def __len__(self):
        return len(self.rows)

    def __getitem__(self, number):
        if not is_integer(number) or not 0 <= number < len(self.rows):
            raise BadNumber("the object is no number of what is in force")
        return self.rows[number]

    def __iter__(self):
        raise TypeError("a session is read by numbers")

    def __eq__(self, other):
        return isinstance(other, Session) and self.rows == other.rows
