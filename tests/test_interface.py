"""The interface: each name in its file, with its arguments, and README's examples."""

import ast
import inspect
import re
import unittest
from importlib import import_module
from pathlib import Path

TOP = Path(__file__).resolve().parent.parent
CLASSES = {
    "errors": ["MarkError", "BadPrime", "BadNumber", "BadMarks", "NoMark", "NotApart"],
    "answers": ["Answer", "Apart", "Same"],
}
FUNCTIONS = {
    "marks": {
        "mark": ["prime", "number"], "number_of": ["prime", "found"],
        "two_of": ["prime", "total"], "apart_by": ["prime", "difference"],
    },
    "judging": {"told": ["marks"], "behind": ["marks"]},
}


def defined_in(name, kind):
    """Tell what stands at the top of a file of the package as such a definition."""
    source = (TOP / "sumsapart" / (name + ".py")).read_text()
    return [node.name for node in ast.parse(source).body if isinstance(node, kind)]


class Interface(unittest.TestCase):
    def test_classes_are_defined_in_their_files(self):
        for name, classes in CLASSES.items():
            for each in classes:
                self.assertIn(each, defined_in(name, ast.ClassDef))

    def test_functions_are_defined_in_their_files(self):
        for name, functions in FUNCTIONS.items():
            for each in functions:
                self.assertIn(each, defined_in(name, ast.FunctionDef))

    def test_functions_take_these_arguments(self):
        for name, functions in FUNCTIONS.items():
            for each, arguments in functions.items():
                found = getattr(import_module("sumsapart." + name), each)
                taken = inspect.signature(found).parameters
                self.assertEqual(list(taken), arguments)
                for argument in taken.values():
                    self.assertIs(argument.kind, argument.POSITIONAL_OR_KEYWORD)
                    self.assertIs(argument.default, argument.empty)


class Examples(unittest.TestCase):
    def test_readme_tells_what_is_so(self):
        names, seen = {}, 0
        for block in re.findall("```python\n(.*?)```", (TOP / "README.md").read_text(), re.DOTALL):
            exec("\n".join(re.findall("^from .*$", block, re.MULTILINE)), names)
            for asked, result in re.findall(r"^(.*\)) +# ([^:\n]*)", block, re.MULTILINE):
                found = eval(asked, names)
                if result.startswith("a"):
                    self.assertIn(type(found).__name__, result.split(",")[0].split(), asked)
                else:
                    self.assertEqual(found, eval(result, names), asked)
                seen += 1
        self.assertGreater(seen, 10)


if __name__ == "__main__":
    unittest.main()
