"""The interface's names stand in its files, and the files keep to the simple rules of the language."""

import ast
import inspect
import re
import unittest
from importlib import import_module
from pathlib import Path

FOLDER = Path(__file__).resolve().parent.parent / "rootalarms"

INTERFACE = {
    "nets": {
        "is_net": ["thing"], "is_set": ["net", "thing"], "reach": ["net", "component"],
        "above": ["net", "component"], "rings": ["net"], "alarms": ["net", "broken"],
    },
    "reports": {
        "report_of": ["net", "broken", "watched"], "candidates": ["net", "report"], "verdict": ["net", "report"],
        "shows_verdict": ["net", "report", "thing"], "explanations": ["net", "report"], "how_many": ["net", "report"],
    },
    "certain": {
        "certain": ["net", "report"], "expected": ["net", "report"], "witness": ["net", "report", "component"],
        "shows_witness": ["net", "report", "component", "thing"],
    },
    "few": {"fewest": ["net", "report"], "apart": ["net", "report"]},
    "advice": {
        "halves": ["net", "report", "component"], "next_watch": ["net", "report"], "needless": ["net", "report"],
        "core": ["net", "report"], "groups": ["net", "watched"],
    },
}

# For each class its bases, its properties, and its methods with their arguments.
CLASSES = {
    "objects": {
        "Net": ([], ["needs", "rings"], {
            "__init__": ["self", "needs"], "__call__": ["self", "broken"], "__getitem__": ["self", "component"],
            "__add__": ["self", "other"], "__neg__": ["self"], "text": ["self"], "__len__": ["self"],
            "__contains__": ["self", "thing"], "__eq__": ["self", "other"], "__repr__": ["self"],
        }),
    },
    "watches": {
        "Watch": ([], ["net", "report", "candidates", "explained", "fewest", "changes"], {
            "__init__": ["self", "net", "report"], "assign_report": ["self", "report"],
            "see": ["self", "component", "word"], "__call__": ["self", "component", "word"],
            "forget": ["self", "component"], "__getitem__": ["self", "component"], "undo": ["self"],
            "trying": ["self"], "__len__": ["self"], "__contains__": ["self", "thing"],
            "__eq__": ["self", "other"], "__repr__": ["self"],
        }),
        "Careful": (["Watch"], [], {"__init__": ["self", "net", "report"]}),
        "Small": (["Watch"], ["most"], {"__init__": ["self", "net", "report", "most"]}),
        "CarefulSmall": (["Careful", "Small"], [], {"__init__": ["self", "net", "report", "most"]}),
    },
}


def sources():
    return [(path, path.read_text("utf-8")) for path in sorted(FOLDER.rglob("*.py"))]


class InterfaceTest(unittest.TestCase):
    def test_functions_are_defined_in_their_files(self):
        for file, functions in INTERFACE.items():
            module = import_module(f"rootalarms.{file}")
            for name, arguments in functions.items():
                with self.subTest(name=name):
                    function = getattr(module, name)
                    self.assertEqual(function.__module__, f"rootalarms.{file}")
                    self.assertEqual(list(inspect.signature(function).parameters), arguments)

    def test_classes_are_defined_in_their_files_with_what_they_list(self):
        for file, classes in CLASSES.items():
            module = import_module(f"rootalarms.{file}")
            for name, (bases, properties, methods) in classes.items():
                kind = getattr(module, name)
                self.assertEqual(kind.__module__, f"rootalarms.{file}")
                self.assertEqual([base.__name__ for base in kind.__bases__ if base is not object], bases)
                for member in properties:
                    with self.subTest(name=name, member=member):
                        self.assertIsInstance(vars(kind)[member], property)
                for member, arguments in methods.items():
                    with self.subTest(name=name, member=member):
                        self.assertEqual(list(inspect.signature(vars(kind)[member]).parameters), arguments)

    def test_read_and_ring_belong_to_the_class(self):
        kind = import_module("rootalarms.objects").Net
        self.assertIsInstance(vars(kind)["read"], classmethod)
        self.assertIsInstance(vars(kind)["ring"], staticmethod)
        self.assertEqual(list(inspect.signature(kind.read).parameters), ["text"])
        self.assertEqual(list(inspect.signature(kind.ring).parameters), ["many"])

    def test_arguments_may_be_passed_by_name(self):
        reports = import_module("rootalarms.reports")
        self.assertEqual(reports.report_of(net=((),), broken=(0,), watched=(0,)), ("alarm",))
        self.assertIs(reports.shows_verdict(net=((),), report=("alarm",), thing=("broken", (0,))), True)
        objects, watches = import_module("rootalarms.objects"), import_module("rootalarms.watches")
        net = objects.Net.read(text="0:\n") + objects.Net.ring(many=2)
        self.assertEqual(net(broken=(2,)), (1, 2))
        watch = watches.CarefulSmall(net=net, report=("quiet", "unseen", "unseen"), most=3)
        watch.see(component=1, word="alarm")
        watch(component=2, word="alarm")
        watch.forget(component=0)
        self.assertEqual(watch.report, ("unseen", "alarm", "alarm"))
        watch.assign_report(report=("unseen",) * 3)
        self.assertEqual(watch, watches.Watch(net=net))


class FilesTest(unittest.TestCase):
    def test_the_package_is_one_folder_of_python_files(self):
        for path in FOLDER.rglob("*"):
            if "__pycache__" not in path.parts:
                self.assertEqual(path.suffix, ".py", path)

    def test_sizes_and_characters(self):
        for path, text in sources():
            lines = text.splitlines()
            self.assertLessEqual(len(lines), 399, path)
            for line in lines:
                self.assertLessEqual(len(line), 120, (path, line))
            self.assertIsNone(re.search(r"[^ -~\n]", text), path)
            for node in ast.walk(ast.parse(text)):
                if isinstance(node, ast.FunctionDef):
                    self.assertLessEqual(node.end_lineno - node.lineno + 1, 40, (path, node.name))

    def test_imports_are_of_the_package_and_name_the_file_that_defines(self):
        for path, text in sources():
            for node in ast.walk(ast.parse(text)):
                self.assertNotIsInstance(node, ast.Import, path)
                if isinstance(node, ast.ImportFrom):
                    self.assertTrue(node.module.startswith("rootalarms."), path)
                    for alias in node.names:
                        found = getattr(import_module(node.module), alias.name)
                        if callable(found):
                            self.assertEqual(found.__module__, node.module, (path, alias.name))
                        else:
                            defined = import_module(node.module).__file__
                            self.assertRegex(Path(defined).read_text("utf-8"), rf"(?m)^{alias.name} = ", path)

    def test_nothing_that_the_language_leaves_out(self):
        barred = (ast.AsyncFunctionDef, ast.Await, ast.Global, ast.Div, ast.TryStar)
        for path, text in sources():
            for node in ast.walk(ast.parse(text)):
                self.assertNotIsInstance(node, barred, (path, getattr(node, "lineno", None)))
                if isinstance(node, ast.Constant):
                    self.assertNotIsInstance(node.value, (float, complex), path)
                    self.assertNotIn("%", str(node.value), path)


if __name__ == "__main__":
    unittest.main()
