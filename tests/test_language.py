"""The files of the package keep to the rules of the language that can be read off the code."""

import ast
import builtins
import os
import re
import unittest

ROOT = os.path.dirname(os.path.dirname(os.path.abspath(__file__)))
FOLDER = os.path.join(ROOT, "anydlooks")

BUILTINS = set("""len range enumerate zip min max sum abs sorted reversed int str bool bytes list tuple dict set
frozenset isinstance ord repr any all divmod Exception ValueError TypeError KeyError IndexError LookupError
ZeroDivisionError ArithmeticError OverflowError RuntimeError NotImplementedError AttributeError StopIteration
NotImplemented iter next map""".split())
METHODS = set("""append clear copy count endswith extend find get index insert isalnum isalpha isdigit islower
isspace isupper items join keys ljust lower lstrip partition pop remove replace reverse rfind rjust rpartition
rsplit rstrip setdefault split splitlines startswith strip update upper values zfill bit_length add
discard""".split())
BARRED = set("""register mro elements open input law version_info with_traceback add_note attrgetter breakpoint
builtins compile copyright credits delattr dir eval exec exit gc getattr globals hasattr help id importlib license
locals methodcaller os quit setattr super type vars sys""".split())
BARRED_WORDS = re.compile(r"\b(type|typing|enum|Enum|IntEnum|StrEnum|Flag|IntFlag|Generic|Protocol|ABC|ABCMeta"
                          r"|namedtuple|NamedTuple|TypedDict|TYPE_CHECKING|abstractmethod)\b")
STATEMENTS = (ast.Assign, ast.AugAssign, ast.If, ast.While, ast.For, ast.Return, ast.Break, ast.Continue, ast.Pass,
              ast.Raise, ast.Expr, ast.FunctionDef, ast.ClassDef, ast.ImportFrom, ast.Try)
TAKERS = ("list", "tuple", "dict", "sorted", "sum", "any", "all", "enumerate", "zip", "min", "max")
INTERFACE = {
    "errors": "NoBlock NoRegister NoBus NoLine NoItem NoPerson NothingDone BadLine CanNot TooMany Unfit",
    "residues": "is_row inverse row_by product basis rank rest_of is_within members factors_for relations across"
                " common solution refusal",
    "programs": "is_machine is_program is_way sizes on_bus items_of item_at replaced writers readers block_calls rings"
                " fruitful reached is_clean shortest longest",
    "runs": "is_run lines_of line_paths choices_of asked sure_lines finished least_run least_run_at runs_to run_counts"
            " lies",
    "forms": "sources written spreads_at is_mark marks_at is_looks looks_of price_of shown sum_shown row_form"
             " is_telling form_told played seen_by secrets_of",
    "chances": "tells told_forms telling_by cover is_cover rank_shown outcomes chance secrets_left least_tellers"
               " is_look_plan plan_chances plan_tells",
    "askings": "is_asking nobody is_bad form_of walk_of draws_asked is_walk walk_terms least_terms least_told told_walk"
               " form_prices",
    "pieces": "is_table price_in asked_ahead line_table still_table joined least_of many_table times_table kept_table"
              " call_table way_table",
    "closed": "made_of deep_tables closed_tables closing are_closed block_price bad_entries withstands shield is_shield",
    "least": "least_price never_told least_relations are_relations never_paper is_never_paper least_telling"
             " cheapest_telling fewest_lines line_steps run_between",
    "sums": "form_price priced_forms forms_to form_telling is_form_telling form_shield is_form_shield together bundle"
            " is_bundle learnt",
    "times": "price_times times_prices times_form is_times_form times_paper is_times_paper told_times telling_times"
             " is_telling_times unrolled",
    "each": "turns turn_count height least_height withstands_each reach is_reach each_telling is_each_telling",
    "persons": "is_persons seen_marks learns learnt_forms group_telling is_group_telling quiet_paper is_quiet_paper"
               " learning_groups quiet_groups groups_for rest_price rest_telling least_cuts",
    "draws": "draws left_out taken_from can_go greatest_spared fewest_draws sources_for with_fewest comes_of",
    "renewals": "renewal keeps_sum renews how_free spots put_in renewed helping harming fewest_renewals",
    "places": "are_free swapped orders in_order best_orders clash is_clash merged merged_prices laid best_laid",
    "exchange": "mended may_stand first_less stand_pairs alike_blocks host_against is_host_against nowhere_less is_host"
                " hosted",
    "sharing": "end_form end_forms end_run are_parts part_sets parts_bar is_parts_bar dealt_anew added",
    "sources": "is_source source_lines cell_forms cell_ends compiled lines_from cells_of least_parts with_renew",
    "engine": "Engine",
    "judge": "is_claim stands paper_against is_paper_against reason_for is_reason_for first_fallen",
    "texts": "run_word sum_word program_text telling_text run_read sum_read read_program read_telling",
    "board": "Board", "desk": "is_request replies",
}


def files():
    found = []
    for name in sorted(os.listdir(FOLDER)):
        if name.endswith(".py"):
            with open(os.path.join(FOLDER, name), encoding="utf-8") as source:
                found.append((name, source.read()))
    return found


def bound_names(function):
    """The names that a function binds: parameters, targets, loop variables, nested functions."""
    names = [own.arg for own in ast.walk(function) if isinstance(own, ast.arg)]
    return names + [own.id for own in ast.walk(function)
                    if isinstance(own, ast.Name) and isinstance(own.ctx, ast.Store)]


class Language(unittest.TestCase):

    def test_only_python_files(self):
        for name in os.listdir(FOLDER):
            self.assertTrue(name == "__pycache__" or re.fullmatch(r"[a-z0-9_]+\.py", name), name)

    def test_size_and_signs(self):
        for name, text in files():
            rows = text.split("\n")
            self.assertLessEqual(len(rows), 399, name)
            self.assertTrue(all(sign == "\n" or " " <= sign <= "~" for sign in text), name)
            self.assertTrue(all(len(row) <= 120 for row in rows), name)
            self.assertTrue(all(row == row.rstrip() for row in rows), name)
            self.assertNotIn("_wall", text)
            for node in ast.walk(ast.parse(text)):
                if isinstance(node, ast.FunctionDef):
                    self.assertLessEqual(node.end_lineno - node.lineno + 1, 40, (name, node.name))

    def test_statements(self):
        for name, text in files():
            for node in ast.walk(ast.parse(text)):
                where = (name, getattr(node, "lineno", 0))
                if isinstance(node, ast.stmt):
                    self.assertIsInstance(node, STATEMENTS, where)
                if isinstance(node, ast.FunctionDef):
                    self.assertFalse(node.decorator_list, where)
                    self.assertIsNone(node.returns, where)
                self.assertNotIsInstance(node, (ast.GeneratorExp, ast.Yield, ast.Set, ast.SetComp, ast.NamedExpr), where)
                if isinstance(node, ast.BinOp):
                    self.assertNotIsInstance(node.op, (ast.Div, ast.Pow), where)
                if isinstance(node, ast.Constant):
                    self.assertNotIsInstance(node.value, (float, complex, bytes), where)
                if isinstance(node, ast.Compare) and isinstance(node.ops[0], (ast.Is, ast.IsNot)):
                    self.assertIsInstance(node.comparators[0], ast.Constant, where)
                if isinstance(node, ast.Raise):
                    self.assertIsInstance(node.exc, ast.Call, where)
                if isinstance(node, ast.Try):
                    self.assertFalse(node.finalbody or node.orelse, where)
                    for own in node.handlers:
                        self.assertIn(own.type.id, INTERFACE["errors"].split(), where)
                        self.assertIsNone(own.name, where)

    def test_module_level(self):
        for name, text in files():
            for node in ast.parse(text).body:
                plain = isinstance(node, (ast.ImportFrom, ast.FunctionDef, ast.ClassDef))
                plain = plain or isinstance(node, ast.Assign) and len(node.targets) == 1
                plain = plain or isinstance(node, ast.Expr) and isinstance(node.value, ast.Constant)
                self.assertTrue(plain, (name, node.lineno))

    def test_lists_at_module_level_are_only_read(self):
        for name, text in files():
            tree = ast.parse(text)
            kept = [node.targets[0].id for node in tree.body
                    if isinstance(node, ast.Assign) and isinstance(node.value, (ast.List, ast.Dict))]
            for node in ast.walk(tree):
                for own in ast.iter_child_nodes(node):
                    if isinstance(own, ast.Name) and own.id in kept and isinstance(own.ctx, ast.Load):
                        read = isinstance(node, (ast.Compare, ast.For, ast.comprehension))
                        read = read or isinstance(node, ast.Subscript) and node.value is own
                        self.assertTrue(read and isinstance(getattr(node, "ctx", ast.Load()), ast.Load), (name, own.lineno))

    def test_inner_functions(self):
        for name, text in files():
            for node in ast.walk(ast.parse(text)):
                if isinstance(node, ast.FunctionDef) and node.name == "__init__":
                    for own in ast.walk(node):
                        self.assertTrue(own is node or not isinstance(own, (ast.FunctionDef, ast.Lambda, ast.Return)), name)

    def test_imports(self):
        defined, used = {}, {}
        for name, text in files():
            own = "anydlooks." + name[:-3]
            tree = ast.parse(text)
            defined[own] = [node.name for node in tree.body if isinstance(node, (ast.FunctionDef, ast.ClassDef))]
            defined[own] += [node.targets[0].id for node in tree.body if isinstance(node, ast.Assign)]
            self.assertEqual(len(defined[own]), len(set(defined[own])), name)
            used[own] = [(node.module, more.name) for node in tree.body if isinstance(node, ast.ImportFrom)
                         for more in node.names]
            imported = [more for _, more in used[own]]
            self.assertEqual(len(imported), len(set(imported)), name)
            self.assertFalse(set(imported) & set(defined[own]), name)
            words = [node.id for node in ast.walk(tree) if isinstance(node, ast.Name)]
            for more in imported:
                self.assertIn(more, words, (name, "imported for nothing"))
        for own in used:
            for module, more in used[own]:
                self.assertIn(more, defined[module], (own, module))
        done = []
        while len(done) < len(used):
            ready = [own for own in used if own not in done and all(module in done for module, _ in used[own])]
            self.assertTrue(ready, "files import from each other")
            done += ready

    def test_every_own_name_is_used(self):
        texts = files()
        for name, text in texts:
            for node in ast.parse(text).body:
                if isinstance(node, (ast.FunctionDef, ast.ClassDef)):
                    if node.name in INTERFACE.get(name[:-3], "").split():
                        continue
                    many = sum(more.count(node.name) and len(re.findall(r"\b" + node.name + r"\b", more)) for _, more in texts)
                    self.assertGreater(many, 1, (name, node.name))

    def test_names(self):
        for name, text in files():
            tree = ast.parse(text)
            outer = [more.name for node in tree.body if isinstance(node, ast.ImportFrom) for more in node.names]
            outer += [node.name for node in tree.body if isinstance(node, ast.ClassDef)]
            top = [node.name for node in tree.body if isinstance(node, (ast.FunctionDef, ast.ClassDef))]
            for function in [node for node in ast.walk(tree) if isinstance(node, ast.FunctionDef)]:
                for own in bound_names(function):
                    self.assertNotIn(own, outer + top, (name, function.name))
                    self.assertFalse(own != "_" and hasattr(builtins, own), (name, function.name, own))
                    self.assertFalse(own.startswith("__"), (name, own))
                self.assertFalse(any(isinstance(node, ast.Name) and node.id == "_" and isinstance(node.ctx, ast.Load)
                                     for node in ast.walk(function)), (name, function.name))
            for node in ast.walk(tree):
                if isinstance(node, ast.Attribute):
                    self.assertNotIn(node.attr, ("format", "mro", "args", "encode", "decode", "hex"), name)
                for own in (getattr(node, "id", None), getattr(node, "name", None), getattr(node, "arg", None)):
                    self.assertNotIn(own, BARRED, name)
            without = re.sub(r'""".*?"""', "", re.sub(r"#.*", "", text), flags=re.S)
            self.assertIsNone(BARRED_WORDS.search(without), name)
            for node in ast.walk(tree):
                if isinstance(node, ast.Constant) and isinstance(node.value, str):
                    self.assertNotIn(chr(37), node.value, name)

    def test_calls(self):
        trees = [(name, ast.parse(text)) for name, text in files()]
        every = [node for _, tree in trees for node in ast.walk(tree)]
        methods = [node.name for _, tree in trees for own in tree.body if isinstance(own, ast.ClassDef)
                   for node in own.body if isinstance(node, ast.FunctionDef)]
        stored = {node.attr for node in every if isinstance(node, ast.Attribute) and isinstance(node.ctx, ast.Store)}
        called = {id(node.func) for node in every if isinstance(node, ast.Call)}
        for name, tree in trees:
            top = [node.name for node in tree.body if isinstance(node, (ast.FunctionDef, ast.ClassDef))]
            top += [more.name for node in tree.body if isinstance(node, ast.ImportFrom) for more in node.names]
            # A function may be handed to another one, which calls it by its parameter's name.
            given = [own.arg for own in ast.walk(tree) if isinstance(own, ast.arg)]
            calls = [node for node in ast.walk(tree) if isinstance(node, ast.Call)]
            inner = {id(own): node.func.id for node in calls if isinstance(node.func, ast.Name) for own in node.args}
            for node in calls:
                where = (name, node.lineno)
                if isinstance(node.func, ast.Attribute):
                    self.assertIn(node.func.attr, METHODS | set(methods), where)
                else:
                    self.assertIn(node.func.id, BUILTINS | set(top) | set(given), where)
                    if node.func.id == "set":
                        self.assertIn(inner.get(id(node)), ("sorted", "len"), where)
                    if node.func.id in ("zip", "enumerate", "reversed"):
                        self.assertTrue(id(node) in self.iterated(tree) or inner.get(id(node)) in TAKERS, where)
                for own in node.args:
                    if isinstance(own, ast.Starred):
                        self.assertIsInstance(own.value, (ast.Name, ast.Attribute), where)
            for node in ast.walk(tree):
                if isinstance(node, ast.Attribute) and node.attr in methods:
                    self.assertTrue(id(node) in called or node.attr in stored, (name, node.lineno, "a method passed on"))

    def iterated(self, tree):
        """What loops and comprehensions go over."""
        return {id(node.iter) for node in ast.walk(tree) if isinstance(node, (ast.For, ast.comprehension))}

    def test_classes(self):
        for name, text in files():
            for node in ast.parse(text).body:
                if isinstance(node, ast.ClassDef):
                    self.assertTrue(node.name[0].isalpha(), (name, node.name))
                    methods = [own.name for own in node.body if isinstance(own, ast.FunctionDef)]
                    self.assertEqual(len(methods), len(set(methods)), (name, node.name))
                    stored = [own.attr for own in ast.walk(node) if isinstance(own, ast.Attribute)
                              and isinstance(own.ctx, ast.Store)]
                    self.assertFalse(set(methods) & set(stored), (name, node.name))
                    double = [own for own in methods if own.startswith("__")]
                    self.assertLessEqual(set(double), {"__init__", "__eq__"}, (name, node.name))

    def test_equality_changes_nothing(self):
        for name, text in files():
            for node in ast.walk(ast.parse(text)):
                if isinstance(node, ast.FunctionDef) and node.name == "__eq__":
                    for own in ast.walk(node):
                        self.assertNotIsInstance(own, (ast.Assign, ast.AugAssign, ast.Delete), (name, node.lineno))

    def test_methods_of_the_interface(self):
        wanted = {"engine": ("Engine", """wants choose draw go_on run drawn lines registers buses secrets look book spent sure
                             fitting undo twin __eq__"""),
                  "board": ("Board", """program watches clean put put_block add_block drop_block lay price deal watch unwatch
                            undo redo cheapest least_price weak broken effect twin __eq__""")}
        for module, (word, methods) in wanted.items():
            for node in ast.parse(dict(files())[module + ".py"]).body:
                if isinstance(node, ast.ClassDef) and node.name == word:
                    here = [own.name for own in node.body if isinstance(own, ast.FunctionDef)]
                    self.assertLessEqual(set(methods.split()), set(here), word)
                    self.assertFalse(node.bases)

    def test_interface(self):
        texts = dict(files())
        for module, names in INTERFACE.items():
            top = [node.name for node in ast.parse(texts[module + ".py"]).body
                   if isinstance(node, (ast.FunctionDef, ast.ClassDef))]
            for own in names.split():
                self.assertIn(own, top, module)


if __name__ == "__main__":
    unittest.main()
