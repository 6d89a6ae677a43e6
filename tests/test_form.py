"""The form of the package: where the interface's names are defined, and the plainer rules of the language."""

import ast
import builtins
import importlib
import inspect
import os
import unittest

HERE = os.path.dirname(os.path.dirname(os.path.abspath(__file__)))
PACKAGE = os.path.join(HERE, "hookedcords")
LIBRARY = {"itertools": {"combinations"}, "math": {"factorial", "gcd"}}
BUILTINS = set(
    "len range enumerate zip min max sum abs sorted reversed int str bool list tuple dict set isinstance any all "
    "divmod type ValueError".split()
)
METHODS = set("append extend pop add setdefault items values get index count join split".split())

INTERFACE = {
    "errors": {},
    "figures": {
        "straight": "cords", "pieces_of": "cords figure", "figure_of_pieces": "cords parted",
        "kinds_of": "cords figure", "rank_of": "cords figure", "hangs": "cords figure point far_point",
        "upon": "cords figure other", "left_over": "cords figure other", "turned_over": "cords figure",
        "mirrored": "cords figure",
    },
    "pieces": {
        "is_finer": "cords figure other", "both_of": "cords figure other", "either_of": "cords figure other",
        "finer_count": "cords figure", "coarser_count": "cords figure", "beside": "cords figure far_cords other",
        "apart_at": "cords figure", "parts_of": "cords figure",
    },
    "rows": {
        "deeds_of": "cords", "deed_figure": "cords deed", "figure_of": "cords row", "leftovers_of": "cords row",
        "figures_on_way": "cords row", "leftovers_on_way": "cords row", "are_alike": "cords row far_row",
        "are_alike_to_last": "cords row far_row", "row_over": "cords row", "row_mirrored": "cords row",
        "first_together": "cords row place far_place",
    },
    "families": {
        "all_families": "", "family_deeds": "cords family", "has_figure": "cords family figure",
        "fault": "cords family figure", "is_fault": "cords family figure value", "words_of": "cords row",
        "families_with": "cords figure", "least_families": "cords figure", "first_family": "cords figure",
        "holds_family": "cords family other", "same_families": "cords family",
    },
    "numbered": {
        "figure_count": "cords family", "figures_of": "cords family", "figure_number": "cords family figure",
        "figure_at": "cords family number", "next_figure": "cords family figure", "rank_counts": "cords family",
        "piece_counts": "cords family", "figures_of_rank": "cords family number",
        "both_figures": "cords family other", "family_of_both": "cords family other",
    },
    "least": {
        "Ladder": "cords family", "Ladder.length_of": "figure", "Ladder.least_row": "figure",
        "Ladder.many_shortest": "figure", "Ladder.shortest_at": "figure number", "Ladder.number_of": "row",
        "Ladder.of_length": "number", "Ladder.by_length": "", "Ladder.farthest": "",
        "fewest": "cords family figure", "least_row": "cords family figure", "is_shortest": "cords family row",
        "how_far": "cords family figure other", "way": "cords family figure other",
        "by_distance": "cords family figure",
    },
    "lengths": {
        "length_by_looks": "cords family figure", "greatest_by_looks": "cords family", "doubled": "cords figure",
        "halved": "cords figure",
    },
    "leaving": {
        "fewest_leaving": "cords family figure number", "row_leaving": "cords family figure number",
        "leaving_lengths": "cords family figure", "can_leave": "cords family figure",
    },
    "factors": {
        "crown_of": "cords figure", "base_of": "cords figure", "leads_down": "cords family figure other",
        "leads_up": "cords family figure other", "leads_on": "cords family figure other",
        "row_down": "cords family figure other", "row_up": "cords family figure other",
        "how_many_down": "cords family figure other", "how_many_up": "cords family figure other",
        "factor_down": "cords family figure other number", "factor_up": "cords family figure other number",
        "rows_on": "cords family figure other", "on_paper": "cords family figure other",
        "check_on": "cords family figure other paper",
    },
    "classes": {
        "top_lot": "cords family figure", "bottom_lot": "cords family figure", "box_of": "cords family figure",
        "cell_of": "cords family figure", "crowns_of": "cords family", "boxes": "cords family",
        "boxes_below": "cords family", "box_table": "cords family figure", "is_turning": "cords family figure",
        "still_of": "cords family figure",
    },
    "powers": {
        "power": "cords figure many", "power_leftovers": "cords figure many", "comes_round": "cords figure",
        "powers_of": "cords figure", "does_stay": "cords figure", "staying_power": "cords figure",
        "exchange_within": "cords figure", "ranks_of": "cords figure",
    },
    "partners": {
        "is_partner": "cords figure other", "undoer": "cords figure", "partners_in": "cords family figure",
        "first_partner": "cords family figure", "staying_in": "cords family",
        "roots_in": "cords family figure many", "roundest_in": "cords family",
    },
    "halves": {
        "need_half": "cords half", "upper_half": "cords figure", "lower_half": "cords figure",
        "meeting_of": "cords figure", "figure_of_halves": "cords half meeting far_half",
        "hung": "cords half far_half", "half_mirrored": "cords half", "all_halves": "cords number",
        "half_count": "cords number", "figures_by_rank": "cords",
    },
    "flatness": {
        "is_flat": "cords figure", "crossing_pairs": "cords figure", "is_flat_half": "cords half",
        "flat_halves": "cords number", "flat_half_count": "cords number", "flat_by_rank": "cords",
        "exchanges_of": "cords figure", "flattening": "cords figure", "check_flattening": "cords figure paper",
        "by_exchanges": "cords", "most_crooked": "cords",
    },
    "closed": {
        "rings": "cords figure", "ring_pieces": "cords figure", "row_rings": "cords row",
        "rings_of_both": "cords figure other", "power_rings": "cords figure many", "ring_count": "cords family",
        "heaviest_in": "cords family",
    },
    "turns": {
        "turn_halves": "cords family figure other", "is_turn": "cords family figure other",
        "turn_lots": "cords family", "are_of_one_lot": "cords family figure other", "lot_rounds": "cords family",
        "turn_paper": "cords family figure other", "check_turn_paper": "cords family figure other paper",
    },
    "books": {
        "need_book": "cords family book", "lots_of": "cords family book", "lot_count": "cords family book",
        "lot_of": "cords family book figure", "least_figure": "cords family book figure",
        "does_follow": "cords family book figure other", "rows_follow": "cords family book row far_row",
        "lot_table": "cords family book", "says": "cords family book far_book",
        "unsaid_pairs": "cords family book far_book", "spare_pairs": "cords family book",
        "least_part": "cords family book",
    },
    "follow": {
        "follow_paper": "cords family book figure other", "check_follow": "cords family book figure other paper",
        "does_go_well": "cords family lots", "joined_lots": "cords family lots far_lots",
        "common_lots": "cords family lots far_lots", "rank_lots": "cords family number",
        "pair_partings": "cords family", "all_partings": "cords family",
    },
    "colourings": {
        "lets": "cords figure many top bottom", "lets_just_so": "cords figure many top bottom",
        "pairs_let": "cords figure many", "pairs_just_so": "cords figure many",
        "bottoms_for": "cords figure many top", "least_bottom": "cords figure many top",
        "pair_numbered": "cords figure many number", "number_of_pair": "cords figure many top bottom",
        "ways": "cords row many top bottom", "inner_way": "cords row many top bottom number",
        "number_of_way": "cords row many top bottom way", "first_apart": "cords row far_row many",
    },
    "counts": {
        "need_sum": "cords terms", "shown": "cords terms many top bottom", "row_sum": "cords row many",
        "added": "cords terms other", "upon_sum": "cords terms other many", "power_sum": "cords terms number many",
        "is_nothing": "cords terms many", "fewest_colours": "cords terms", "first_shown": "cords terms many",
        "letting": "cords family many top bottom", "hold": "cords family many",
    },
    "gaps": {
        "need_gapped": "cords gapped", "all_deeds": "cords", "does_fill": "cords gapped row",
        "many_fillings": "cords gapped", "filling_at": "cords gapped number",
        "number_of_filling": "cords gapped row", "gapped_between": "cords row far_row",
    },
    "sights": {
        "need_seen": "cords gapped seen", "shows": "cords row seen", "bears": "cords gapped seen row",
        "many_bearing": "cords gapped seen", "bearing_at": "cords gapped seen number",
        "number_bearing": "cords gapped seen row", "ends": "cords gapped seen", "left_ends": "cords gapped seen",
        "sure_lots": "cords gapped seen", "sure_sight": "cords gapped seen step point far_point",
        "sure_sights": "cords gapped seen",
    },
    "sightings": {"bearing_paper": "cords gapped seen", "check_bearing": "cords gapped seen paper"},
    "questions": {
        "answers_of": "cords gapped row menu", "lots_by": "cords gapped seen menu",
        "can_settle": "cords gapped seen menu", "fewest_questions": "cords gapped seen menu",
        "best_plan": "cords gapped seen menu", "least_sum": "cords gapped seen menu",
        "sum_plan": "cords gapped seen menu", "need_plan": "cords gapped menu plan",
        "plan_depth": "cords gapped menu plan", "plan_sum": "cords gapped seen menu plan",
        "does_settle": "cords gapped seen menu plan", "needed_questions": "cords gapped seen menu",
        "idle_questions": "cords gapped seen menu",
    },
    "texts": {
        "row_text": "cords row", "figure_text": "cords figure", "family_text": "family", "book_text": "cords book",
        "read_row": "cords text", "read_figure": "cords text", "read_book": "cords text", "read_family": "text",
    },
    "sheets": {"sheet_told": "text", "judged": "text"},
    "live": {
        "Weave": "cords", "Weave.work": "row", "Weave.work_above": "row", "Weave.turn_over": "",
        "Weave.undo": "*many", "Weave.again": "*many", "Weave.mark": "name", "Weave.is_alike": "name",
        "Weave.figure": "", "Weave.leftovers": "", "Weave.hang_together": "point far_point", "Weave.copy": "",
        "Weave.trial": "", "under": "manager deed",
    },
    "guide": {
        "Guide": "weave family goal", "Guide.way_left": "", "Guide.left": "", "Guide.is_there": "", "Guide.go": "",
    },
    "desk": {"Desk": "", "Desk.say": "line"},
}

# Properties of classes, and the double-underscore methods that are told.
PROPERTIES = {"live": {"Weave": ("row", "marks")}}
OPERATORS = {"live": {"Weave": ("__len__", "__eq__")}}


def files():
    return sorted(name for name in os.listdir(PACKAGE) if name != "__pycache__")


def text_of(name):
    with open(os.path.join(PACKAGE, name), encoding="utf-8") as source:
        return source.read()


def trees():
    return [(name, ast.parse(text_of(name))) for name in files()]


class Interface(unittest.TestCase):
    def test_names_stand_in_their_files_with_their_parameters(self):
        for module, names in INTERFACE.items():
            loaded = importlib.import_module("hookedcords." + module)
            for name, parameters in names.items():
                found = loaded
                for part in name.split("."):
                    found = vars(found)[part]
                self.assertEqual(found.__module__, "hookedcords." + module, name)
                told = [one for one in inspect.signature(found).parameters.values() if one.name != "self"]
                words = ["*" * (one.kind is one.KEYWORD_ONLY) + one.name for one in told]
                self.assertEqual(words, parameters.split(), name)
                self.assertTrue(all(one.kind in (one.POSITIONAL_OR_KEYWORD, one.KEYWORD_ONLY) for one in told), name)

    def test_properties_and_operators_stand_in_their_classes(self):
        for module, classes in PROPERTIES.items():
            for name, words in classes.items():
                body = vars(getattr(importlib.import_module("hookedcords." + module), name))
                self.assertEqual([word for word in body if isinstance(body[word], property)], list(words))
        for module, classes in OPERATORS.items():
            for name, words in classes.items():
                body = vars(getattr(importlib.import_module("hookedcords." + module), name))
                self.assertLessEqual(set(words), set(body))

    def test_each_interface_function_has_a_place_in_the_table(self):
        # A module's further functions are helpers; none of them may shadow an interface name elsewhere.
        seen = {}
        for module, names in INTERFACE.items():
            for name in names:
                if "." not in name:
                    self.assertNotIn(name, seen)
                    seen[name] = module
        for name, tree in trees():
            for one in tree.body:
                if isinstance(one, (ast.FunctionDef, ast.ClassDef)) and one.name in seen:
                    self.assertEqual(seen[one.name] + ".py", name)


class Form(unittest.TestCase):
    def test_the_folder_holds_plain_python_files_alone(self):
        for name in files():
            self.assertRegex(name, r"^[a-z0-9_]+\.py$")

    def test_sizes_and_characters(self):
        for name in files():
            text = text_of(name)
            self.assertLessEqual(len(text.split("\n")) - 1, 399, name)
            for line in text.split("\n"):
                self.assertLessEqual(len(line), 120, (name, line))
            self.assertTrue(all(" " <= sign <= "~" or sign == "\n" for sign in text), name)

    def test_functions_are_small_and_plain(self):
        for name, tree in trees():
            for one in ast.walk(tree):
                if isinstance(one, ast.FunctionDef):
                    self.assertLessEqual(one.end_lineno - one.lineno + 1, 40, (name, one.name))
                    told = [ast.unparse(decorator) for decorator in one.decorator_list]
                    self.assertIn(told, ([], ["property"]), (name, one.name))
                    self.assertIsNotNone(ast.get_docstring(one) or one.name == "__init__", (name, one.name))
                    self.assertTrue(ast.get_docstring(one) or one.name == "__init__", (name, one.name))

    def test_imports_are_from_the_defining_file(self):
        for name, tree in trees():
            for one in ast.walk(tree):
                self.assertNotIsInstance(one, ast.Import, name)
                if isinstance(one, ast.ImportFrom):
                    self.assertIn(one, tree.body, name)
                    self.assertEqual(one.level, 0)
                    for alias in one.names:
                        self.assertIsNone(alias.asname)
                        self.check_import(name, one.module, alias.name)

    def check_import(self, name, module, word):
        if module in LIBRARY:
            self.assertIn(word, LIBRARY[module], name)
            return
        self.assertTrue(module.startswith("hookedcords."), (name, module))
        tree = ast.parse(text_of(module.split(".")[1] + ".py"))
        told = [one.name for one in tree.body if isinstance(one, (ast.FunctionDef, ast.ClassDef))]
        for one in tree.body:
            if isinstance(one, ast.Assign):
                told.extend(target.id for target in one.targets)
        self.assertIn(word, told, (name, module))

    def test_imported_names_are_used_and_bound_to_nothing_else(self):
        for name, tree in trees():
            imported = [one.name for part in tree.body if isinstance(part, ast.ImportFrom) for one in part.names]
            self.assertEqual(len(imported), len(set(imported)), name)
            read = {one.id for one in ast.walk(tree) if isinstance(one, ast.Name) and isinstance(one.ctx, ast.Load)}
            bound = {one.id for one in ast.walk(tree) if isinstance(one, ast.Name) and isinstance(one.ctx, ast.Store)}
            bound |= {one.arg for one in ast.walk(tree) if isinstance(one, ast.arg)}
            bound |= {one.name for one in ast.walk(tree) if isinstance(one, (ast.FunctionDef, ast.ClassDef))}
            self.assertLessEqual(set(imported), read, name)
            self.assertEqual(set(imported) & bound, set(), name)
            self.assertEqual(bound & set(dir(builtins)), set(), name)

    def test_no_file_imports_itself_in_a_circle(self):
        near = {
            name[:-3]: {one.module.split(".")[1] for one in tree.body
                        if isinstance(one, ast.ImportFrom) and one.module.startswith("hookedcords.")}
            for name, tree in trees()
        }
        while near:
            free = [name for name, others in near.items() if not others & set(near)]
            self.assertTrue(free, near)
            for name in free:
                del near[name]

    def test_statements_and_calls_are_of_the_subset(self):
        banned = (
            ast.AsyncFunctionDef, ast.Global, ast.Nonlocal, ast.Lambda, ast.GeneratorExp, ast.Yield, ast.YieldFrom,
            ast.Div, ast.JoinedStr, ast.NamedExpr, ast.Starred, ast.Delete, ast.Assert, ast.Match, ast.AugAssign,
        )
        methods = {
            one.name for _, tree in trees() for part in tree.body if isinstance(part, ast.ClassDef)
            for one in part.body if isinstance(one, ast.FunctionDef)
        }
        for name, tree in trees():
            own = {one.name for one in ast.walk(tree) if isinstance(one, (ast.FunctionDef, ast.ClassDef))}
            own |= {one.name for part in tree.body if isinstance(part, ast.ImportFrom) for one in part.names}
            for one in ast.walk(tree):
                self.assertNotIsInstance(one, banned, (name, getattr(one, "lineno", None)))
                if isinstance(one, ast.Call) and isinstance(one.func, ast.Name):
                    self.assertIn(one.func.id, BUILTINS | own | self.kept_functions(name, tree), (name, one.lineno))
                    self.assertEqual(one.keywords, [], (name, one.lineno))
                if isinstance(one, ast.Call) and isinstance(one.func, ast.Attribute):
                    self.assertIn(one.func.attr, METHODS | methods, (name, one.lineno))
                if isinstance(one, ast.Constant):
                    self.assertNotIsInstance(one.value, (float, bytes), (name, one.lineno))
                    self.assertNotIn("%", str(one.value), (name, one.lineno))
                if isinstance(one, ast.Compare) and any(isinstance(sign, (ast.Is, ast.IsNot)) for sign in one.ops):
                    told = one.comparators[0]
                    plain = isinstance(told, ast.Constant) and told.value in (None, True, False)
                    self.assertTrue(plain or self.asks_kind(one), (name, one.lineno))

    def kept_functions(self, name, tree):
        """Local names of functions: those taken from a table of functions, and the one parameter that is called."""
        kept = {"deed"} if name == "live.py" else set()
        tables = {
            one.targets[0].id for one in tree.body if isinstance(one, ast.Assign) and isinstance(one.value, ast.Dict)
        }
        for one in ast.walk(tree):
            if isinstance(one, ast.Assign) and isinstance(one.value, ast.Subscript):
                if isinstance(one.value.value, ast.Name) and one.value.value.id in tables:
                    kept.add(one.targets[0].id)
        return kept

    def test_own_errors_alone_are_caught(self):
        own = [one.name for one in dict(trees())["errors.py"].body if isinstance(one, ast.ClassDef)]
        for name, tree in trees():
            for one in ast.walk(tree):
                if isinstance(one, ast.Try):
                    self.assertEqual((one.finalbody, one.orelse), ([], []), name)
                    self.assertTrue(all(handler.type.id in own for handler in one.handlers), name)

    def test_ends_of_with_statements_assign_alone(self):
        for name, tree in trees():
            for one in ast.walk(tree):
                if isinstance(one, ast.FunctionDef) and one.name == "__exit__":
                    self.assertEqual([word.arg for word in one.args.args], ["self", "kind", "value", "trace"])
                    for part in one.body[1:]:
                        self.assertIsInstance(part, ast.Assign, name)
                        self.assertIsInstance(part.value, ast.Attribute, name)
                        self.assertEqual(part.value.value.id, "self", name)

    def asks_kind(self, one):
        left = one.left
        return isinstance(left, ast.Call) and isinstance(left.func, ast.Name) and left.func.id == "type"

    def test_sets_are_local_and_never_gone_through(self):
        for name, tree in trees():
            for one in ast.walk(tree):
                if isinstance(one, (ast.For, ast.comprehension)):
                    self.assertNotIsInstance(one.iter, (ast.Set, ast.SetComp), name)
                    told = isinstance(one.iter, ast.Call) and isinstance(one.iter.func, ast.Name)
                    self.assertFalse(told and one.iter.func.id == "set", name)

    def test_module_level_holds_plain_things_alone(self):
        allowed = (ast.Expr, ast.ImportFrom, ast.FunctionDef, ast.ClassDef, ast.Assign)
        for name, tree in trees():
            for at, one in enumerate(tree.body):
                self.assertIsInstance(one, allowed, name)
                if isinstance(one, ast.Expr):
                    self.assertEqual(at, 0, name)
                if isinstance(one, ast.Assign) and not self.is_table_of_functions(tree, one.value):
                    ast.literal_eval(one.value)

    def is_table_of_functions(self, tree, value):
        if not isinstance(value, ast.Dict) or not all(isinstance(one, ast.Name) for one in value.values):
            return False
        told = {one.name: one.lineno for one in tree.body if isinstance(one, ast.FunctionDef)}
        return all(told.get(one.id, value.lineno) < value.lineno for one in value.values)
