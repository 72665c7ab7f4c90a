"""What README.md shows is what the program tells."""

import ast
import pathlib
import re
import unittest

README = pathlib.Path(__file__).resolve().parent.parent / "README.md"


def told_behind(lines, node):
    """What stands as a remark behind a row, or alone below it."""
    last = lines[node.end_lineno - 1]
    if "  # " in last:
        return last.split("  # ", 1)[1]
    below = lines[node.end_lineno]
    return below[2:] if below.startswith("# ") else "None"


class ReadmeTest(unittest.TestCase):
    def test_the_examples(self):
        blocks = re.findall(r"```python\n(.*?)```", README.read_text("utf-8"), re.DOTALL)
        self.assertTrue(blocks)
        for block in blocks:
            names = {}
            lines = block.split("\n")
            for node in ast.parse(block).body:
                row = ast.get_source_segment(block, node)
                if isinstance(node, ast.Expr):
                    self.assertEqual(eval(row, names), eval(told_behind(lines, node), names), row)
                    continue
                exec(row, names)
                if told_behind(lines, node) != "None":
                    self.assertEqual(names[node.targets[0].id], eval(told_behind(lines, node), names), row)


if __name__ == "__main__":
    unittest.main()
