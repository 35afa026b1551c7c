"""What README.md shows is what the program answers."""

import ast
import re
import unittest
from pathlib import Path

README = Path(__file__).parent.parent / "README.md"


def blocks(text):
    return re.findall(r"^```python\n(.*?)^```$", text, re.MULTILINE | re.DOTALL)


def shown(block):
    """For each statement the code, and what stands behind it as a remark (None where nothing does)."""
    rows = block.split("\n")
    for node in ast.parse(block).body:
        last = rows[node.end_lineno - 1]
        remark = last[node.end_col_offset:].strip()
        yield node, remark[1:].strip() if remark.startswith("#") else None


class Examples(unittest.TestCase):
    def test_all(self):
        names = {}
        seen = 0
        for block in blocks(README.read_text()):
            for node, remark in shown(block):
                if not isinstance(node, ast.Expr):
                    exec(compile(ast.Module([node], []), "README.md", "exec"), names)
                    continue
                answer = eval(compile(ast.Expression(node.value), "README.md", "eval"), names)
                if remark is not None:
                    self.assertEqual(repr(answer), remark)
                    seen += 1
        self.assertGreater(seen, 20)

    def test_rows_are_no_longer_than_the_packages(self):
        self.assertEqual([row for row in README.read_text().split("\n") if len(row) > 120], [])


if __name__ == "__main__":
    unittest.main()
