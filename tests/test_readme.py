"""The examples in README.md answer as it says."""

import ast
import pathlib
import unittest

README = pathlib.Path(__file__).resolve().parent.parent / "README.md"


class ReadmeTest(unittest.TestCase):
    def test_examples(self):
        code = README.read_text(encoding="utf-8").split("```python\n")[1].split("```")[0]
        rows = code.split("\n")
        names = {}
        asked = 0
        for node in ast.parse(code).body:
            source = ast.get_source_segment(code, node)
            if isinstance(node, ast.Expr):
                note = rows[node.end_lineno - 1].split("#", 1)[1].strip()
                answer = repr(eval(source, names))
                self.assertEqual(note[:len(answer)], answer, source)
                self.assertIn(note[len(answer):][:1], ("", ":"), source)
                asked += 1
            else:
                exec(source, names)
        self.assertGreater(asked, 10)

    def test_each_module_is_told_of(self):
        text = README.read_text(encoding="utf-8")
        for path in (README.parent / "turtlehouse").glob("*.py"):
            if path.stem != "__init__":
                self.assertIn(f"`turtlehouse.{path.stem}`", text)


if __name__ == "__main__":
    unittest.main()
