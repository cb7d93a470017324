"""The form of the code: the rules of the language that are plainly seen from outside."""

import ast
import pathlib
import unittest

PACKAGE = pathlib.Path(__file__).resolve().parent.parent / "linearmix"
INTERFACE = {
    "errors": ("MixError", "BadForm", "BadText", "NoName", "BadName", "Clash", "BadOrder",
               "BadClass", "BadParts", "NoMember", "NotAbove", "NotLetBy", "BadProgram",
               "BadKind", "BadPlace", "BadPath", "NoParameter", "BadPatterns", "BadCount",
               "BadCore", "TooMany", "NothingToUndo", "Full", "BadNumber", "BadCommand"),
    "forms": ("is_program", "names_of", "size_of", "renamed", "moved"),
    "texts": ("write_program", "read_program"),
    "orders": ("order_of", "order_holds", "disordered", "mixed"),
    "members": ("members_of", "bodies", "super_of", "lacking"),
    "checks": ("check", "let_by"),
    "kinds": ("seen_from", "put_in", "part_of", "plain_kind"),
    "below": ("is_below", "same_kind", "top_of", "bottom_of", "first_gap", "below_paper",
              "below_holds", "freest_sign"),
    "found": ("found", "kind_at", "names_of_pattern", "choose", "tree_right"),
    "givens": ("find_given", "evidence_holds", "evidence_fits", "all_evidence", "would_change"),
    "shapes": ("shapes_of", "missing", "needless", "tree_of", "tree_holds", "unsure"),
    "runs": ("run", "steps_of", "calls_of", "first_unlike", "things_made", "reads"),
    "cores": ("is_core", "run_core", "begun_bodies"),
    "lowering": ("lowered",),
    "better": ("reach", "reach_holds", "direct_calls", "left_out", "shortened", "better", "core_size", "gain"),
    "questions": ("worked_by", "hidden", "asks", "ready_order", "unready_reads", "reached", "never_reached",
                  "rounds"),
    "session": ("Session",),
    "desk": ("Desk",),
}
BUILTINS = """len range enumerate zip min max sum abs sorted reversed int str bool list tuple dict set
isinstance ord repr any all divmod ValueError TypeError KeyError super type""".split()
METHODS = """append clear copy count endswith extend find get index insert isalnum isalpha isdigit
islower isspace isupper items join keys ljust lower lstrip partition pop remove replace reverse rfind
rjust rpartition rsplit rstrip setdefault split splitlines startswith strip update upper values zfill
bit_length isascii add discard partition removeprefix""".split()
STATEMENTS = (ast.Import, ast.ImportFrom, ast.FunctionDef, ast.ClassDef, ast.Assign, ast.Expr, ast.If,
              ast.While, ast.For, ast.Return, ast.Break, ast.Continue, ast.Pass, ast.Raise, ast.Assert,
              ast.AugAssign, ast.Try, ast.Delete)


def files():
    return sorted(PACKAGE.rglob("*.py"))


def nodes(kind):
    """(file, node) of all nodes of a kind in the package."""
    for file in files():
        for node in ast.walk(ast.parse(file.read_text())):
            if isinstance(node, kind):
                yield file.name, node


class LanguageTest(unittest.TestCase):
    def test_the_folder_holds_plain_files_alone(self):
        for path in PACKAGE.iterdir():
            if path.name != "__pycache__":
                self.assertRegex(path.name, r"^[a-z_]+\.py$")

    def test_sizes_and_characters(self):
        for file in files():
            lines = file.read_text().split("\n")
            self.assertLessEqual(len(lines), 399, file)
            for line in lines:
                self.assertLessEqual(len(line), 120, file)
                self.assertTrue(all(" " <= c <= "~" for c in line), file)
        for name, node in nodes((ast.FunctionDef, ast.Lambda)):
            self.assertLessEqual(node.end_lineno - node.lineno + 1, 40, name)

    def test_imports_come_from_the_package_alone(self):
        for name, node in nodes((ast.Import, ast.ImportFrom)):
            self.assertIsInstance(node, ast.ImportFrom, name)
            self.assertRegex(node.module, r"^linearmix\.[a-z_]+$", name)
            home = ast.parse((PACKAGE / (node.module.split(".")[1] + ".py")).read_text())
            for alias in node.names:
                self.assertIn(alias.name, defined_in(home), name)

    def test_no_two_files_import_from_each_other(self):
        imports = {}
        for name, node in nodes(ast.ImportFrom):
            imports.setdefault(name, set()).add(node.module.split(".")[1] + ".py")
        left = {file.name for file in files()}
        while left:
            free = {name for name in left if not imports.get(name, set()) & left}
            self.assertTrue(free, left)
            left -= free

    def test_the_interface_is_defined_where_it_is_listed(self):
        for module, names in INTERFACE.items():
            tree = ast.parse((PACKAGE / (module + ".py")).read_text())
            own = {node.name for node in tree.body if isinstance(node, (ast.FunctionDef, ast.ClassDef))}
            self.assertLessEqual(set(names), own)

    def test_statements(self):
        for name, node in nodes(ast.stmt):
            self.assertIsInstance(node, STATEMENTS, (name, node.lineno))

    def test_builtins_and_methods(self):
        own = {node.name for _, node in nodes((ast.FunctionDef, ast.ClassDef))}
        for name, node in nodes(ast.Call):
            if isinstance(node.func, ast.Name):
                self.assertIn(node.func.id, own | set(BUILTINS) | {"work", "answer", "change"}, (name, node.lineno))
            elif isinstance(node.func, ast.Attribute):
                self.assertIn(node.func.attr, own | set(METHODS) | {"__init__"}, (name, node.lineno))

    def test_what_does_not_stand_at_all(self):
        for name, node in nodes((ast.GeneratorExp, ast.Global, ast.Nonlocal, ast.Yield, ast.YieldFrom,
                                 ast.Await, ast.Div, ast.With)):
            self.fail((name, node.lineno))
        for name, node in nodes(ast.Constant):
            self.assertNotIsInstance(node.value, (float, complex), name)
            if isinstance(node.value, str):
                self.assertNotIn("%", node.value, name)

    def test_every_function_and_class_tells_what_it_is_for(self):
        for name, node in nodes((ast.Module, ast.ClassDef, ast.FunctionDef)):
            if not getattr(node, "name", "").startswith("__"):
                self.assertTrue(ast.get_docstring(node), (name, getattr(node, "name", "")))

    def test_no_name_is_that_of_a_builtin(self):
        taken = set(dir(__import__("builtins"))) - {"__name__", "__doc__"}
        for name, node in nodes((ast.FunctionDef, ast.ClassDef, ast.arg, ast.Name)):
            word = getattr(node, "name", getattr(node, "arg", getattr(node, "id", "")))
            if not isinstance(node, ast.Name) or isinstance(node.ctx, ast.Store):
                self.assertNotIn(word, taken - {"__init__"}, name)

    def test_no_variable_has_the_name_of_an_import_or_a_class_of_its_file(self):
        for file in files():
            tree = ast.parse(file.read_text())
            taken = {alias.name for node in tree.body if isinstance(node, ast.ImportFrom)
                     for alias in node.names}
            taken |= {node.name for node in tree.body if isinstance(node, ast.ClassDef)}
            for node in ast.walk(tree):
                if isinstance(node, ast.arg):
                    self.assertNotIn(node.arg, taken, (file, node.lineno))
                if isinstance(node, ast.Name) and isinstance(node.ctx, ast.Store):
                    self.assertNotIn(node.id, taken, (file, node.lineno))

    def test_no_name_is_a_method_and_an_attribute_of_one_class(self):
        owners = {owner.name: owner for _, owner in nodes(ast.ClassDef)}
        for name, owner in nodes(ast.ClassDef):
            family = [owner] + [owners[base.id] for base in owner.bases if base.id in owners]
            methods = {node.name for one in family for node in one.body if isinstance(node, ast.FunctionDef)}
            stored = {node.attr for one in family for node in ast.walk(one) if isinstance(node, ast.Attribute)
                      and isinstance(node.ctx, ast.Store)}
            self.assertFalse(methods & stored, (name, owner.name))

    def test_attributes_are_not_named_like_methods_of_builtins(self):
        for name, node in nodes(ast.Attribute):
            if isinstance(node.ctx, ast.Store):
                self.assertNotIn(node.attr, set(METHODS) | {"sort", "args", "format", "open", "input"},
                                 (name, node.lineno))

    def test_no_method_is_read_off_a_class(self):
        classes = {node.name for _, node in nodes(ast.ClassDef)}
        for name, node in nodes(ast.Attribute):
            if isinstance(node.value, ast.Name):
                self.assertNotIn(node.value.id, classes, (name, node.lineno))

    def test_what_is_reversed_is_plainly_a_list(self):
        for name, node in nodes(ast.Call):
            if isinstance(node.func, ast.Name) and node.func.id == "reversed":
                self.assertIn(node.args[0].func.id, ("list", "tuple", "sorted", "range"), (name, node.lineno))

    def test_is_stands_with_none_and_truths_alone(self):
        for name, node in nodes(ast.Compare):
            for word, other in zip(node.ops, node.comparators):
                if isinstance(word, (ast.Is, ast.IsNot)) and "type(" not in ast.unparse(node):
                    self.assertIsInstance(other, ast.Constant, (name, node.lineno))

    def test_no_name_is_bound_twice_in_a_file(self):
        for file in files():
            names = list(defined_in(ast.parse(file.read_text()), everything=True))
            self.assertEqual(len(names), len(set(names)), file)


def defined_in(tree, everything=False):
    """The names that a file binds at its top, with imports only if everything is wanted."""
    names = []
    for node in tree.body:
        if isinstance(node, (ast.FunctionDef, ast.ClassDef)):
            names.append(node.name)
        elif isinstance(node, ast.Assign):
            names.extend(target.id for target in node.targets)
        elif isinstance(node, ast.ImportFrom) and everything:
            names.extend(alias.name for alias in node.names)
    return names


if __name__ == "__main__":
    unittest.main()
