"""The interface: names, the files that define them, arguments; and the language of the package."""

import ast
import importlib
import inspect
import pathlib
import unittest

PACKAGE = pathlib.Path(__file__).resolve().parent.parent / "clankernel"

FUNCTIONS = {
    "rows": {"row_of": "word", "word_of": "row", "row_text": "row", "is_placed": "row"},
    "asm": {"text_of": "words", "moved": "words by"},
    "cells": {"wants": "cell word", "touches": "cell word", "does": "cell word value", "memory_of": "words",
              "step": "cell memory", "run_rows": "cell memory ticks"},
    "hot": {"block_pairs": "block window spot"},
    "trees": {"page_at": "spaces task page", "page_chain": "spaces task page", "page_beneath": "spaces task page",
              "page_holders": "spaces frame", "told_apart": "one other", "shows_told_apart": "one other value"},
    "tables": {"tables_of": "spaces task", "walk": "tables address", "shows_tables": "spaces task value"},
    "kept": {"plain": "spaces course", "writers": "spaces course", "kept": "spaces course empties",
             "stale": "empties", "shows_stale": "empties value"},
    "places": {"right_at": "rights task place", "right_chain": "rights number", "right_beneath": "rights number",
               "right_holders": "rights thing letter", "bared": "rights number", "after_deeds": "rights deeds"},
    "meeting": {"message": "waits thread to badge words limit source wait", "rung": "waits gate badge words",
                "ticked": "waits", "broken": "waits thread", "gone": "waits threads", "followed": "waits deeds"},
    "items": {"items_in": "words", "item_words": "items", "copied": "source target start goal many",
              "fitting": "sent received"},
    "results": {"result_number": "word half", "result_word": "number"},
    "ledger": {"ledger": "told", "call_pairs": "told"},
    "faults": {"first_refused": "letters accesses", "fault_words": "fault place", "fault_of": "words",
               "door_of": "fault", "behind_answer": "fault words"},
    "devices": {"fed": "devices inputs"},
    "turns": {"who_runs": "turns ticks"},
    "lending": {"lent": "turns thread", "shows_lent": "turns thread value", "payer": "turns thread",
                "runs_again": "turns thread", "shares": "turns ticks"},
    "answers": {"play": "loads asks ticks", "answer": "loads job", "shows_answer": "loads job value",
                "priorities": "loads within", "shows_priorities": "loads within value"},
    "clans": {"clan": "clans task", "beneath": "clans task", "depth": "clans task"},
    "ways": {"straight": "clans task other", "next_stop": "clans task other", "way": "clans task other",
             "way_sort": "clans task other", "passes": "clans task other", "met_by": "clans stop"},
    "kills": {"goes": "kernel task", "pointing": "kernel tasks"},
    "traces": {"words_to": "events thread", "told_rows": "events"},
    "images": {"image": "kernel", "from_image": "text"},
    "paged": {"carried": "memory frames way rows"},
    "servers": {"server": "name", "served": "name calls"},
    "lots": {"stuck": "waits roads", "freed": "waits roads thread", "shows_freed": "waits roads thread value",
             "least_stuck": "waits roads", "shows_ring": "waits roads value", "cut_stuck": "waits roads some"},
    "levels": {"levels": "waits habits", "shows_levels": "waits habits value", "longest": "waits habits thread"},
    "ever": {"ever": "rights clans spaces free task thing letters",
             "shows_ever": "rights clans spaces free task thing letters value",
             "reach": "rights clans spaces free", "helpers": "rights clans spaces free task thing letters"},
    "heard": {"ways_between": "rights clans spaces by_table one other", "heard": "rights clans spaces by_table one other",
              "shows_heard": "rights clans spaces by_table one other value"},
    "journals": {"journal": "kernel", "read_journal": "text"},
}
CLASSES = {
    "asm": {"Program": {"__init__": "text", "__eq__": "other"}},
    "cells": {"Cell": {"__init__": "registers place", "__eq__": "other", "with_place": "place",
                       "with_register": "number word"}},
    "spaces": {"Spaces": {
        "__init__": "text", "__eq__": "other", "__len__": "", "__contains__": "value",
        "mapped": "giver block taker window spot letters", "granted": "giver block taker window spot letters",
        "unmapped": "task block letters own", "gone": "tasks"}},
    "rights": {"Rights": {
        "__init__": "text", "__eq__": "other", "first": "task place thing", "with_gate": "owner",
        "copied": "task place to letters", "minted": "task place to badge",
        "handed": "giver place taker to letters badge", "moved": "task place to", "dropped": "task place",
        "taken_back": "task place", "gone": "tasks"}},
    "waiting": {"Waits": {
        "__init__": "text", "__eq__": "other", "__len__": "", "__contains__": "value", "state": "thread",
        "owes": "thread", "senders": "gate"}},
    "devices": {"Devices": {
        "__init__": "text", "__eq__": "other", "__len__": "", "rang": "device word", "bound": "device gate badge",
        "first_at": "gates", "taken": "device", "gone": "gates"}},
    "turns": {"Turns": {
        "__init__": "text", "__eq__": "other", "passed": "", "ready": "thread", "rest": "thread", "wait": "thread other",
        "call": "thread other", "reply": "thread stays", "give_way": "thread", "with_priority": "thread priority",
        "gone": "threads"}},
    "answers": {"Loads": {"__init__": "text", "__eq__": "other"}},
    "clans": {"Clans": {
        "__init__": "text", "__eq__": "other", "__len__": "", "__contains__": "value", "chief": "task",
        "has_border": "task", "made": "chief border", "killed": "task", "bordered": "task border"}},
    "systems": {"System": {"__init__": "text", "__eq__": "other", "with_inputs": "inputs"}},
    "kernel": {"Kernel": {
        "__init__": "system", "__eq__": "other", "cell": "thread", "state": "thread", "doors": "thread",
        "passing": "thread", "word": "frame at", "read": "task address", "run": "ticks", "tell": "device word",
        "undo": "", "redo": "", "trial": "", "keep": "", "tried": "look keep", "copy": ""}},
    "paged": {"Paged": {"__init__": "memory frames", "__eq__": "other", "next_row": "", "brought": "page frame"}},
    "desk": {"Desk": {"__init__": "text", "say": "line"}},
}
BUILTINS = set("""len range enumerate zip min max sum abs sorted reversed int str bool bytes list tuple dict set
    isinstance ord repr any all divmod pow type ValueError""".split())
# Words of the language beyond this package's few: none of these kinds of nodes is needed.
BARRED = (ast.GeneratorExp, ast.Set, ast.SetComp, ast.Global, ast.Nonlocal, ast.Yield, ast.YieldFrom, ast.Await,
          ast.AsyncFunctionDef, ast.Lambda, ast.NamedExpr, ast.Div, ast.Pow)

# Beneath the rows of __exit__: assignments, tests, names and attributes, no call, no sign and no item.
ROWS_OF_ENDS = (ast.Assign, ast.If, ast.BoolOp, ast.boolop, ast.UnaryOp, ast.Not, ast.Compare, ast.Is, ast.IsNot,
                ast.Attribute, ast.Name, ast.Constant, ast.expr_context)


def sources():
    return [(path, path.read_text(encoding="utf-8")) for path in sorted(PACKAGE.glob("*.py"))]


def names_of(call):
    return [name for name in inspect.signature(call).parameters if name != "self"]


def module(name):
    return importlib.import_module(f"clankernel.{name}")


class InterfaceTest(unittest.TestCase):
    def test_functions_stand_in_their_files_with_their_arguments(self):
        for name, functions in FUNCTIONS.items():
            for function, arguments in functions.items():
                found = getattr(module(name), function)
                self.assertEqual(found.__module__, f"clankernel.{name}")
                self.assertEqual(names_of(found), arguments.split(), function)

    def test_classes_define_their_methods_themselves(self):
        for name, classes in CLASSES.items():
            for cls, methods in classes.items():
                found = getattr(module(name), cls)
                self.assertEqual(found.__module__, f"clankernel.{name}")
                for method, arguments in methods.items():
                    self.assertIn(method, vars(found))
                    self.assertEqual(names_of(vars(found)[method]), arguments.split(), method)

    def test_attributes_are_set_when_an_object_is_created(self):
        told = {
            "asm": ("Program", "# none", "text words names"),
            "spaces": ("Spaces", "frames 1\ntasks 1", "text frames tasks pages"),
            "rights": ("Rights", "tasks 1\nnext 0", "text tasks gates next rows"),
            "waiting": ("Waits", "now 0\nthreads 1\ngates", "text now priorities owners"),
            "devices": ("Devices", "none", "text"),
            "turns": ("Turns", "manner slices\nthread 0 0 1 1\nrow", "text threads row waits calls next"),
            "answers": ("Loads", "job 1 0 1", "text jobs"),
            "clans": ("Clans", "clans 1\ntask 0 - none", "text fresh tasks"),
            "systems": ("System", "frames 1\ntask 0 -\nthread 0 0 0 0 1 rests\nturns slices",
                        "text spaces rights clans waits turns devices inputs tasks"),
        }
        for name, (cls, text, attributes) in told.items():
            made = getattr(module(name), cls)(text)
            for attribute in attributes.split():
                self.assertIn(attribute, vars(made))
        kernel = module("kernel").Kernel(module("systems").System(told["systems"][1]))
        self.assertLessEqual(set("system tick spaces rights clans waits turns devices deeds done".split()), set(vars(kernel)))
        paged = module("paged").Paged((0,) * 256, 2)
        self.assertLessEqual(set("standing frames store memory fresh written done".split()), set(vars(paged)))
        self.assertIn("kernel", vars(module("desk").Desk(told["systems"][1] + "\nkernel")))
        cell = module("cells").Cell((0,) * 8, 3)
        self.assertEqual((cell.registers, cell.place), ((0,) * 8, 3))

    def test_arguments_by_name(self):
        spaces = module("spaces").Spaces(text="frames 4\ntasks 2")
        mapped = spaces.mapped(letters="rw", spot=0, window=(3, 1), taker=1, block=(0, 1), giver=0)
        self.assertEqual(mapped.pages, ((1, 3, 0, "rw"),))
        self.assertEqual(mapped.unmapped(own=True, letters="r", block=(3, 1), task=1).pages, ((1, 3, 0, "w"),))
        self.assertEqual(module("asm").moved(by=2, words=((0, 1),)), ((2, 1),))
        rights = module("rights").Rights("tasks 2\ngate 0\nnext 0").first(thing="g0", place=3, task=0)
        handed = rights.handed(badge=None, letters="s", to=1, taker=1, place=3, giver=0)
        self.assertEqual(handed.rows[1], (1, 1, 1, "g0", "s", None, 0))
        waits = module("waiting").Waits("now 0\nthreads 1 1\ngates 1")
        later, told = module("meeting").message(wait=None, source="reply", limit=5, words=(1, 2, 3, 4), badge=7, to=0,
                                                thread=0, waits=waits)
        self.assertEqual((told, later.state(0)), ((), ("sends", 0, 7, (1, 2, 3, 4), 0, 5, "reply", None)))
        memory = tuple(range(256))
        self.assertEqual(module("items").copied(many=2, goal=9, start=3, target=memory, source=memory)[1][8:12], (8, 3, 4, 11))
        self.assertEqual(module("devices").Devices(text="none").gone(gates=()).text, "none")
        turns = module("turns").Turns(text="manner slices\nthread 0 0 1 1\nthread 0 0 1 1\nrow 0")
        self.assertEqual(turns.call(other=1, thread=0).reply(stays=True, thread=1).row, (0, 1))
        clans = module("clans").Clans(text="clans 1\ntask 0 - none").made(border=True, chief=0)
        self.assertEqual(module("ways").way(other=1, task=0, clans=clans), (1,))
        loads = module("answers").Loads(text="job 2 0 1")
        self.assertEqual(module("answers").play(ticks=2, asks=((0, 0),), loads=loads), ((0, None), (1,)))


class LanguageTest(unittest.TestCase):
    def test_sizes_and_signs(self):
        for path, text in sources():
            lines = text.split("\n")
            self.assertLessEqual(len(lines), 399, path)
            self.assertTrue(all(sign == "\n" or " " <= sign <= "~" for sign in text), path)
            self.assertLessEqual(max(len(line) for line in lines), 120, path)

    def test_functions_are_short_and_without_decorators(self):
        for path, text in sources():
            for node in ast.walk(ast.parse(text)):
                if isinstance(node, ast.FunctionDef):
                    self.assertLessEqual(node.end_lineno - node.lineno + 1, 40, (path, node.name))
                if isinstance(node, (ast.FunctionDef, ast.ClassDef)):
                    self.assertEqual(node.decorator_list, [], (path, node.name))

    def test_nothing_of_the_language_that_is_not_needed(self):
        for path, text in sources():
            for node in ast.walk(ast.parse(text)):
                self.assertNotIsInstance(node, BARRED, (path, getattr(node, "lineno", 0)))
                self.assertFalse(isinstance(node, ast.Constant) and isinstance(node.value, (float, complex)), path)
                if isinstance(node, ast.Constant) and isinstance(node.value, str):
                    self.assertNotIn("%", node.value, path)

    def test_where_a_block_ends_only_none_is_asked_for(self):
        ends = []
        for path, text in sources():
            for node in ast.walk(ast.parse(text)):
                self.assertFalse(isinstance(node, ast.Try) and node.finalbody, path)
                if isinstance(node, ast.FunctionDef) and node.name == "__exit__":
                    ends.append(node)
        self.assertEqual(len(ends), 1)
        for part in [part for end in ends for row in end.body for part in ast.walk(row)]:
            self.assertIsInstance(part, ROWS_OF_ENDS)
            if isinstance(part, ast.If):
                self.assertTrue(_asks_for_none(part.test), part.lineno)

    def test_what_asks_for_none_alone(self):
        for text in ("a is None", "a.b is not None", "not (a is None and b.c is not None or d is None)"):
            self.assertTrue(_asks_for_none(ast.parse(text, mode="eval").body), text)
        for text in ("a", "a.b", "not a.b", "a is None or not a.b", "a is True", "a == None", "a == 1", "None is a",
                     "a() is None", "a[0] is None", "a is b is None"):
            self.assertFalse(_asks_for_none(ast.parse(text, mode="eval").body), text)

    def test_imports_name_the_file_that_defines_the_name(self):
        defined = {path.stem: set(_defined(ast.parse(text))) for path, text in sources()}
        for path, text in sources():
            for node in ast.walk(ast.parse(text)):
                self.assertNotIsInstance(node, ast.Import, path)
                if isinstance(node, ast.ImportFrom):
                    package, _, name = node.module.partition(".")
                    self.assertEqual((package, node.level), ("clankernel", 0), path)
                    for alias in node.names:
                        self.assertIn(alias.name, defined[name], path)
                        self.assertIsNone(alias.asname, path)

    def test_no_two_files_import_from_each_other(self):
        ahead = {path.stem: [node.module.partition(".")[2] for node in ast.parse(text).body if isinstance(node, ast.ImportFrom)]
                 for path, text in sources()}
        while ahead:
            last = [name for name in ahead if not any(other in ahead for other in ahead[name])]
            self.assertTrue(last, ahead)
            ahead = {name: ahead[name] for name in ahead if name not in last}

    def test_no_name_is_a_method_and_an_attribute(self):
        methods, attributes = set(), set()
        for _, text in sources():
            for node in ast.walk(ast.parse(text)):
                if isinstance(node, ast.ClassDef):
                    methods |= {part.name for part in node.body if isinstance(part, ast.FunctionDef)}
                if isinstance(node, ast.Attribute) and isinstance(node.ctx, ast.Store):
                    attributes.add(node.attr)
        self.assertEqual(methods & attributes, set())

    def test_names_are_known_used_and_no_builtins(self):
        for path, text in sources():
            tree = ast.parse(text)
            own = set(_defined(tree))
            imported = {alias.name for node in tree.body if isinstance(node, ast.ImportFrom) for alias in node.names}
            stored, loaded = set(), set()
            for node in ast.walk(tree):
                if isinstance(node, ast.Name):
                    (loaded if isinstance(node.ctx, ast.Load) else stored).add(node.id)
                if isinstance(node, ast.arg):
                    stored.add(node.arg)
                if isinstance(node, ast.ExceptHandler) and node.name:
                    stored.add(node.name)
            builtin = set(dir(__import__("builtins")))
            self.assertEqual((stored | own) & builtin, set(), path)
            self.assertEqual(stored & imported, set(), path)
            self.assertEqual(loaded & builtin - BUILTINS, set(), path)
            self.assertEqual(loaded - stored - own - imported - BUILTINS, set(), path)
            self.assertEqual(imported - loaded, set(), path)


def _defined(tree):
    for node in tree.body:
        if isinstance(node, (ast.FunctionDef, ast.ClassDef)):
            yield node.name
        if isinstance(node, ast.Assign):
            yield node.targets[0].id


def _asks_for_none(test):
    """Whether a test asks names and attributes only whether they are None."""
    if isinstance(test, ast.BoolOp):
        return all(_asks_for_none(part) for part in test.values)
    if isinstance(test, ast.UnaryOp) and isinstance(test.op, ast.Not):
        return _asks_for_none(test.operand)
    if not isinstance(test, ast.Compare) or len(test.ops) != 1 or not isinstance(test.ops[0], (ast.Is, ast.IsNot)):
        return False
    side = test.comparators[0]
    return isinstance(test.left, (ast.Name, ast.Attribute)) and isinstance(side, ast.Constant) and side.value is None


if __name__ == "__main__":
    unittest.main()
