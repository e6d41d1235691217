"""The files of the package keep to the subset of the language, as far as a look at the code can tell."""

import ast
import builtins
import importlib
import inspect
import keyword
import pathlib
import re
import unittest

FOLDER = pathlib.Path(__file__).resolve().parent.parent / "standframes"
FILES = sorted(FOLDER.glob("*.py"))
BUILTINS = set(
    "len range enumerate zip min max sum abs sorted reversed int str bool list tuple dict set isinstance ord repr any "
    "all divmod iter super property staticmethod ValueError".split())
LIBRARY = {"math": {"gcd", "lcm", "isqrt", "comb", "perm", "factorial"}, "heapq": {"heappush", "heappop"}}
METHODS = set(
    "append clear copy count endswith extend find get index insert isalnum isalpha isdigit islower isspace isupper "
    "items join keys ljust lower lstrip partition pop remove replace reverse rfind rjust rpartition rsplit rstrip setdefault "
    "split splitlines startswith strip update upper values zfill bit_length".split())
BARRED_NODES = (
    ast.AsyncFunctionDef, ast.Await, ast.Global, ast.GeneratorExp, ast.Div, ast.Lambda, ast.Yield,
    ast.YieldFrom, ast.With, ast.Match, ast.NamedExpr, ast.AnnAssign, ast.Set, ast.SetComp, ast.Nonlocal, ast.Delete,
)
BARRED_NAMES = set(
    "register mro elements open input law version_info with_traceback add_note attrgetter breakpoint builtins compile "
    "copyright credits delattr dir eval exec exit gc getattr globals hasattr help id importlib license locals "
    "methodcaller os quit setattr type vars sys".split())
BARRED_WORDS = set(
    "type typing typing_extensions enum Enum IntEnum StrEnum Flag IntFlag Generic Protocol ABC ABCMeta namedtuple "
    "NamedTuple TypedDict TYPE_CHECKING abstractmethod".split())

# A doctest that ran before may have left the name _ behind.
NAMES_OF_PYTHON = {name for name in dir(builtins) if name != "_"}

# What the interface lists: the parameters as Python writes them.
INTERFACE = {
    "ratios": {
        "is_ratio": "(value)", "ratio": "(numerator, denominator=1)", "add": "(one, other)",
        "subtract": "(one, other)", "multiply": "(one, other)", "divide": "(one, other)", "negate": "(one)",
        "sign": "(one)", "compare": "(one, other)", "total": "(values)", "root": "(one)",
        "root_sign": "(plain, factor, under)",
    },
    "rows": {
        "dot": "(one, other)", "pivots": "(rows, *, width)", "null_solutions": "(rows, *, width)",
        "solve": "(rows, right, *, width)", "is_solve": "(rows, right, answer, *, width)",
    },
    "least": {
        "least": "(rows, right, costs, *, signs=None)", "is_least": "(rows, right, costs, answer, *, signs=None)",
        "signed_solve": "(rows, right, *, signs)", "is_signed_solve": "(rows, right, answer, *, signs)",
    },
    "frames": {
        "is_name": "(value)", "Frame": "(joints, bars, *, grounds=None)",
        "Frame.joints": None, "Frame.bars": None, "Frame.grounds": None, "Frame.place": "(self, joint)",
        "Frame.across": "(self, joint)", "Frame.ends": "(self, bar)", "Frame.role": "(self, bar)",
        "Frame.span": "(self, bar)", "Frame.squared": "(self, bar)", "Frame.bars_at": "(self, joint)",
        "Frame.bar_between": "(self, one, other)", "Frame.__eq__": "(self, other)",
        "Frame.__contains__": "(self, value)",
    },
    "loads": {
        "Load": "(forces)", "Load.single": "(joint, x, y)", "Load.entries": None, "Load.force": "(self, joint)",
        "Load.count": "(self)", "Load.__iter__": "(self)", "Load.__add__": "(self, other)",
        "Load.__sub__": "(self, other)", "Load.__neg__": "(self)", "Load.__mul__": "(self, other)",
        "Load.__eq__": "(self, other)", "power": "(load, velocities)", "resultant": "(frame, load)",
        "pair_load": "(frame, one, other)", "pull_load": "(frame, pulls)",
    },
    "changes": {
        "bare": "(frame)", "part": "(frame, joints)", "part_load": "(load, joints)",
        "with_joint": "(frame, joint, x, y)", "with_bar": "(frame, bar, one, other, *, role='rod')",
        "with_ground": "(frame, joint, across)", "without_bar": "(frame, bar)", "without_joint": "(frame, joint)",
        "moved": "(frame, places)", "mapped": "(frame, matrix, *, shift=((0, 1), (0, 1)))",
        "mapped_load": "(load, matrix)",
    },
    "forces": {
        "carry": "(frame, load)", "is_carry": "(frame, load, answer)", "own_stresses": "(frame)",
        "is_own_stress": "(frame, value)",
    },
    "sections": {
        "cut_bars": "(frame, joints)", "balance": "(frame, load, joints, *, pulls, reactions)",
        "section": "(frame, load, joints)",
    },
    "motions": {
        "motions": "(frame)", "freedom": "(frame)", "stands": "(frame)", "is_motion": "(frame, value)",
        "rate": "(frame, velocities, one, other)", "loose_joints": "(frame)",
        "rigid": "(frame, *, shift=((0, 1), (0, 1)), turn=(0, 1))", "is_rigid": "(frame, value)", "stiff": "(frame)",
        "lock": "(frame, one, other)",
    },
    "counts": {
        "room": "(size)", "inner_bars": "(frame, joints)", "kept_bars": "(frame)", "counted_freedom": "(frame)",
        "sparse": "(frame)", "tight": "(frame)", "crowd": "(frame, bar)", "is_crowded": "(frame, value)",
        "stiff_parts": "(frame)", "missing_pairs": "(frame)",
    },
    "steps": {
        "take_down": "(frame)", "is_building": "(frame, value)", "built_pairs": "(steps)",
        "crowd_stress": "(frame, bar)", "spread": "(frame)", "is_spread": "(frame, answer)",
    },
    "oneway": {
        "hold": "(frame, load)", "is_hold": "(frame, load, answer)", "slack": "(frame, load, bar)",
        "is_slack": "(frame, load, bar, answer)", "slack_bars": "(frame, load)", "steady": "(frame)",
        "is_steady": "(frame, answer)",
    },
    "strength": {
        "collapse": "(frame, load, limits)", "is_collapse": "(frame, load, limits, answer)",
        "dissipation": "(frame, limits, velocities)", "role_limits": "(frame)", "sag": "(frame, load, springs)",
        "is_sag": "(frame, load, springs, answer)", "energy": "(frame, springs, pulls)",
    },
    "pictures": {
        "picture": "(frame, walks, pulls)", "is_picture": "(frame, walks, value)",
        "picture_pulls": "(frame, walks, points)", "force_polygon": "(frame, walks, points, joint)",
        "reciprocal": "(frame, walks, pulls)",
    },
    "lifts": {
        "lift": "(frame, walks, pulls)", "is_lift": "(frame, walks, value)", "lift_pulls": "(frame, walks, planes)",
        "heights": "(frame, walks, planes)", "plane_height": "(plane, point)", "bowl": "(frame, planes)",
        "convex_outside": "(frame)",
    },
    "words": {"write_ratio": "(one)", "read_ratio": "(word)", "split_row": "(row, line)"},
    "sheets": {
        "Sheet": "(frame, loads, asks)", "Sheet.frame": None, "Sheet.loads": None, "Sheet.asks": None,
        "Sheet.__eq__": "(self, other)", "read_sheet": "(text)", "write_sheet": "(sheet)",
    },
    "certificates": {
        "write_certificate": "(certificate)", "read_certificate": "(text)", "answers": "(sheet)", "reply": "(text)",
    },
    "drives": {
        "drive": "(frame, drives)", "is_drive": "(frame, drives, answer)", "swing": "(frame, velocities)",
        "halfway": "(frame, other)",
    },
    "placing": {
        "meet": "(one, other, first, second, *, side=1)",
        "meet_line": "(place, direction, centre, squared, *, side=1)", "side_of": "(spot, one, other)",
        "distance_sign": "(spot, centre, squared)", "turn_point": "(point, centre, tangent)",
        "chain_reach": "(squares, distance)",
    },
    "linkages": {
        "course": "(frame, *, crank=None)", "positions": "(frame, *, turn=None, squares=None)",
        "fits_positions": "(frame, value, *, turn=None, squares=None)", "sweep": "(frame, crank, tangents)",
    },
    "mending": {
        "spare": "(frame, bar)", "is_spare": "(frame, bar, answer)", "spare_bars": "(frame)",
        "thin": "(frame, costs)", "is_thin": "(frame, costs, answer)", "offered": "(frame, offers)",
        "mend": "(frame, offers)", "is_mend": "(frame, offers, answer)", "replacing": "(frame, bar, offers)",
    },
    "cheapest": {
        "lightest": "(frame, load)", "is_lightest": "(frame, load, answer)", "tie_up": "(frame, load, offers)",
        "is_tie_up": "(frame, load, offers, answer)",
    },
    "yards": {
        "Yard": "(*, rule='free')", "Yard.replayed": "(deeds, rule)", "Yard.work": "(self, deed)",
        "Yard.undo": "(self)", "Yard.redo": "(self)", "Yard.rule": None, "Yard.records": None, "Yard.frame": None,
        "Yard.load": None, "Yard.count": "(self)", "Yard.__iter__": "(self)", "Yard.state": "(self, number)",
        "Yard.twin": "(self)", "Yard.__eq__": "(self, other)", "keeps": "(frame, load, rule)",
    },
    "cranes": {
        "sound": "(frame, load, order, *, rule)", "standing_order": "(frame)",
        "is_standing_order": "(frame, answer)", "carrying_order": "(frame, load, *, rule='carry')",
        "is_carrying_order": "(frame, load, answer, *, rule='carry')", "order_deeds": "(frame, load, order)",
    },
    "desks": {"write_deeds": "(deeds)", "read_deeds": "(text)", "run_rows": "(text, *, rule='free')"},
    "faces": {
        "crossing": "(frame)", "is_flat": "(frame)", "faces": "(frame)", "is_cover": "(frame, value)",
        "double_area": "(frame, walk)", "outer_face": "(frame)", "ring": "(frame, walks, joint)",
    },
    "errors": {name: None for name in (
        "FrameError WrongKind OutOfBounds RepeatedName UnknownName UnfitError ZeroDivisor NegativeRoot ZeroBar FlatMap "
        "BadSteps NotOneWay NotHeld NotFlat NotCover NotOwnStress NotPicture NotLift NoReciprocal NotMotion NotAlike "
        "NotCrank NothingToUndo NothingToRedo Unsafe BadText").split()},
}


def trees():
    for path in FILES:
        yield path, ast.parse(path.read_text(encoding="utf-8"))


def defined_names(tree):
    """Every name that the file binds, except attributes and methods."""
    names = []
    methods = [item for node in ast.walk(tree) if isinstance(node, ast.ClassDef) for item in node.body]
    for node in ast.walk(tree):
        if isinstance(node, (ast.FunctionDef, ast.ClassDef)) and node not in methods:
            names.append(node.name)
        elif isinstance(node, ast.arg):
            names.append(node.arg)
        elif isinstance(node, ast.Name) and isinstance(node.ctx, ast.Store):
            names.append(node.id)
        elif isinstance(node, ast.alias):
            names.append(node.name)
    return names


class TestFiles(unittest.TestCase):
    def test_sizes_and_characters(self):
        for path in FILES:
            data = path.read_bytes()
            self.assertTrue(all(byte == 10 or 32 <= byte <= 126 for byte in data), path)
            lines = data.decode().split("\n")
            self.assertLessEqual(len(lines), 399, path)
            for line in lines:
                self.assertLessEqual(len(line), 120, path)
                self.assertEqual(line, line.rstrip(), path)
            self.assertTrue(data.endswith(b"\n") and not data.endswith(b"\n\n"), path)
            self.assertRegex(path.name, r"^[a-z_]+\.py$")

    def test_functions_are_short(self):
        for path, tree in trees():
            for node in ast.walk(tree):
                if isinstance(node, ast.FunctionDef):
                    self.assertLessEqual(node.end_lineno - node.lineno + 1, 40, f"{path} {node.name}")

    def test_folder_holds_nothing_else(self):
        others = [path.name for path in FOLDER.iterdir() if path not in FILES and path.name != "__pycache__"]
        self.assertEqual(others, [])


class TestCode(unittest.TestCase):
    def test_barred_statements_and_expressions(self):
        for path, tree in trees():
            for node in ast.walk(tree):
                self.assertNotIsInstance(node, BARRED_NODES, f"{path} {getattr(node, 'lineno', 0)}")
                if isinstance(node, ast.Constant):
                    self.assertNotIsInstance(node.value, (float, complex, bytes))
                    if isinstance(node.value, str):
                        self.assertNotIn("%", node.value)
                if isinstance(node, (ast.FunctionDef, ast.arg)):
                    self.assertIsNone(node.returns if isinstance(node, ast.FunctionDef) else node.annotation)

    def test_decorators(self):
        for path, tree in trees():
            for node in ast.walk(tree):
                if isinstance(node, ast.FunctionDef):
                    told = [item.id for item in node.decorator_list]
                    self.assertIn(told, ([], ["property"], ["staticmethod"]), path)

    def test_imports(self):
        for path, tree in trees():
            body = [node for node in tree.body if not isinstance(node, ast.Expr)]
            count = len([node for node in ast.walk(tree) if isinstance(node, (ast.Import, ast.ImportFrom))])
            for node in body[:count]:
                self.assertIsInstance(node, ast.ImportFrom, path)
                self.assertEqual(node.level, 0)
                self.assertTrue(all(item.asname is None and item.name != "*" for item in node.names))
                if node.module in LIBRARY:
                    self.assertTrue({item.name for item in node.names} <= LIBRARY[node.module])
                    continue
                self.assertTrue(node.module.startswith("standframes."), node.module)
                target = FOLDER / (node.module.split(".", 1)[1] + ".py")
                defined = set()
                for item in ast.parse(target.read_text(encoding="utf-8")).body:
                    if isinstance(item, (ast.FunctionDef, ast.ClassDef)):
                        defined.add(item.name)
                    elif isinstance(item, ast.Assign):
                        defined.update(name.id for name in item.targets)
                self.assertTrue({item.name for item in node.names} <= defined, f"{path} {node.module}")

    def test_every_import_is_used(self):
        for path, tree in trees():
            used = {node.id for node in ast.walk(tree) if isinstance(node, ast.Name)}
            for node in ast.walk(tree):
                if isinstance(node, ast.ImportFrom):
                    self.assertEqual([item.name for item in node.names if item.name not in used], [], path)

    def test_no_circle_of_imports(self):
        needs = {}
        for path, tree in trees():
            needs[path.stem] = {
                node.module.split(".")[1] for node in tree.body
                if isinstance(node, ast.ImportFrom) and node.module.startswith("standframes.")}
        done = set()
        while len(done) < len(needs):
            ready = {name for name in needs if name not in done and needs[name] <= done}
            self.assertTrue(ready, set(needs) - done)
            done |= ready

    def test_module_level(self):
        for path, tree in trees():
            for at, node in enumerate(tree.body):
                if isinstance(node, ast.Expr):
                    self.assertEqual(at, 0, path)
                    self.assertIsInstance(node.value.value, str)
                elif isinstance(node, ast.Assign):
                    self.assertEqual(len(node.targets), 1)
                    self.check_plain(tree.body[:at], node.value)
                else:
                    self.assertIsInstance(node, (ast.FunctionDef, ast.ClassDef, ast.ImportFrom))

    def check_plain(self, before, value):
        """The value is a literal, or a dict of functions that are defined above it."""
        functions = {node.name for node in before if isinstance(node, ast.FunctionDef)}
        if isinstance(value, ast.Dict) and all(isinstance(item, ast.Name) for item in value.values):
            self.assertTrue({item.id for item in value.values} <= functions)
        else:
            ast.literal_eval(value)

    def test_only_own_errors_are_caught(self):
        own = {
            node.name for path, tree in trees() if path.name == "errors.py" for node in tree.body
            if isinstance(node, ast.ClassDef)}
        for path, tree in trees():
            for node in ast.walk(tree):
                if isinstance(node, ast.Try):
                    self.assertFalse(node.finalbody or node.orelse, f"{path} {node.lineno}")
                    for handler in node.handlers:
                        caught = handler.type.elts if isinstance(handler.type, ast.Tuple) else [handler.type]
                        self.assertTrue({item.id for item in caught} <= own - {"FrameError"}, f"{path} {node.lineno}")

    def test_lists_and_dicts_at_module_level_are_not_passed_on(self):
        """They are read by an index, by `in`, and as copies; functions in them are called by a name of their own."""
        for path, tree in trees():
            tables = {
                node.targets[0].id for node in tree.body
                if isinstance(node, ast.Assign) and isinstance(node.value, (ast.List, ast.Dict))}
            fine = set()
            for node in ast.walk(tree):
                if isinstance(node, ast.Subscript) and isinstance(node.ctx, ast.Load):
                    fine.add(node.value)
                elif isinstance(node, ast.Compare):
                    fine.update(node.comparators)
                elif isinstance(node, ast.Call) and isinstance(node.func, ast.Name) and node.func.id in ("list",
                    "dict"):
                    fine.update(node.args)
                elif isinstance(node, ast.Call):
                    self.assertNotIsInstance(node.func, ast.Subscript, f"{path} {node.lineno}")
            for node in ast.walk(tree):
                if isinstance(node, ast.Name) and node.id in tables and isinstance(node.ctx, ast.Load):
                    self.assertIn(node, fine, f"{path} {node.lineno}")

    def test_names(self):
        for path, tree in trees():
            taken = {item.name for node in ast.walk(tree) if isinstance(node, ast.ImportFrom) for item in node.names}
            taken |= {node.name for node in tree.body if isinstance(node, ast.ClassDef)}
            for name in defined_names(tree):
                self.assertNotIn(name, NAMES_OF_PYTHON, path)
                self.assertNotIn(name, BARRED_NAMES, path)
                self.assertFalse(name.startswith("__") or keyword.issoftkeyword(name) and name != "_", path)
                self.assertNotRegex(name, "^(_wall|_pe_|_dcw_|_enum_|_cm_|_twin_re_|_lay_|_law_|_stub_|_sre|_record)")
            for node in ast.walk(tree):
                if isinstance(node, ast.arg) or isinstance(node, ast.Name) and isinstance(node.ctx, ast.Store):
                    name = node.arg if isinstance(node, ast.arg) else node.id
                    self.assertNotIn(name, taken, f"{path} {node.lineno}")
                if isinstance(node, ast.Name) and isinstance(node.ctx, ast.Load):
                    self.assertNotEqual(node.id, "_", f"{path} {node.lineno}")
                    if node.id in NAMES_OF_PYTHON:
                        self.assertIn(node.id, BUILTINS, f"{path} {node.lineno}")

    def test_module_names_are_bound_once(self):
        for path, tree in trees():
            names = []
            for node in tree.body:
                if isinstance(node, ast.ImportFrom):
                    names.extend(item.name for item in node.names)
                elif isinstance(node, (ast.FunctionDef, ast.ClassDef)):
                    names.append(node.name)
                elif isinstance(node, ast.Assign):
                    names.append(node.targets[0].id)
            self.assertEqual(len(names), len(set(names)), path)

    def test_words(self):
        for path, tree in trees():
            for node in ast.walk(tree):
                for value in (getattr(node, field, None) for field in ("id", "attr", "arg", "name")):
                    self.assertNotIn(value, BARRED_WORDS, path)
            self.assertNotRegex(path.read_text(encoding="utf-8"), r"_wall|_WallAttr|dataclass|overload|contextmanager")

    def test_attributes_and_methods(self):
        methods, stored = set(METHODS) | {"__init__"}, set()
        for _, tree in trees():
            for node in ast.walk(tree):
                if isinstance(node, ast.ClassDef):
                    methods |= {item.name for item in node.body if isinstance(item, ast.FunctionDef)}
                    stored |= {item.targets[0].id for item in node.body if isinstance(item, ast.Assign)}
                if isinstance(node, ast.Attribute) and isinstance(node.ctx, ast.Store):
                    stored.add(node.attr)
        for path, tree in trees():
            for node in ast.walk(tree):
                if isinstance(node, ast.Attribute) and isinstance(node.ctx, ast.Load):
                    self.assertIn(node.attr, methods | stored, f"{path} {node.lineno}")
        self.assertFalse(stored & METHODS)

    def test_no_property_is_assigned(self):
        properties, stored = set(), set()
        for _, tree in trees():
            for node in ast.walk(tree):
                if isinstance(node, ast.FunctionDef) and node.decorator_list:
                    properties.add(node.name)
                if isinstance(node, ast.Attribute) and isinstance(node.ctx, ast.Store):
                    stored.add(node.attr)
        self.assertFalse(stored & properties)

    def test_stars_stand_before_names(self):
        for path, tree in trees():
            for node in ast.walk(tree):
                if isinstance(node, ast.Starred):
                    self.assertIsInstance(node.value, (ast.Name, ast.Attribute), f"{path} {node.lineno}")
                self.assertNotIsInstance(getattr(node, "op", None), (ast.Pow, ast.LShift), path)

    def test_no_sorting_in_place_and_no_iterating_over_sets(self):
        for path in FILES:
            self.assertIsNone(re.search(r"\.sort\(|\bset\(|frozenset", path.read_text(encoding="utf-8")), path)

    def test_super_is_called_in_the_errors_only(self):
        for path in FILES:
            if path.name != "errors.py":
                self.assertNotIn("super(", path.read_text(encoding="utf-8"), path)


class TestInterface(unittest.TestCase):
    def test_defined_where_it_is_listed(self):
        for stem, names in INTERFACE.items():
            module = importlib.import_module(f"standframes.{stem}")
            tree = ast.parse((FOLDER / f"{stem}.py").read_text(encoding="utf-8"))
            bodies = {node.name: node for node in tree.body if isinstance(node, (ast.FunctionDef, ast.ClassDef))}
            for name, told in names.items():
                owner, _, method = name.partition(".")
                self.assertIn(owner, bodies, f"{stem}.{owner}")
                if method:
                    self.assertIn(method, [getattr(item, "name", None) for item in bodies[owner].body], name)
                if told is not None:
                    found = getattr(module, owner)
                    found = getattr(found, method) if method else found
                    self.assertEqual(str(inspect.signature(found)), told, name)

    def test_properties(self):
        from standframes.frames import Frame
        from standframes.loads import Load
        from standframes.sheets import Sheet
        from standframes.yards import Yard
        for owner, names in (
            (Frame, ("joints", "bars", "grounds")), (Load, ("entries",)), (Sheet, ("frame", "loads", "asks")),
            (Yard, ("rule", "records", "frame", "load")),
        ):
            for name in names:
                self.assertIsInstance(vars(owner)[name], property)
        self.assertIsInstance(vars(Load)["single"], staticmethod)
        self.assertIsInstance(vars(Yard)["replayed"], staticmethod)
        self.assertEqual((Frame.MOST_JOINTS, Frame.MOST_BARS, Yard.MOST_RECORDS), (12, 30, 40))
