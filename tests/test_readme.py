"""That the examples of README.md run, and tell what stands behind them."""

import ast
import pathlib
import re
import unittest

README = pathlib.Path(__file__).resolve().parent.parent / "README.md"


class ReadmeTest(unittest.TestCase):
    def test_examples(self):
        blocks = re.findall(r"```python\n(.*?)```", README.read_text(encoding="utf-8"), re.S)
        self.assertGreater(len(blocks), 3)
        names, checked = {"print": lambda *things: None}, 0
        for block in blocks:
            for row in ast.parse(block).body:
                source = ast.get_source_segment(block, row)
                if isinstance(row, ast.Expr):
                    value = eval(compile(source, "README.md", "eval"), names)
                    told = re.match(r" +# (.*)$", block.split(source, 1)[1].split("\n")[0])
                    checked += self.check(value, told[1]) if told else 0
                else:
                    exec(compile(source, "README.md", "exec"), names)
        self.assertGreater(checked, 8)

    def check(self, value, told):
        """That the remark tells the value, or how it begins; none where the remark is no value."""
        if told[0] not in "[(\"TF":
            return 0
        expected = told.replace("'", '"')
        value = repr(value).replace("'", '"')
        self.assertEqual(value[:len(expected) - 4] if told.endswith(", ..") else value, expected.removesuffix(", .."))
        return 1


if __name__ == "__main__":
    unittest.main()
