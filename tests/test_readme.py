"""Runs the examples of README.md and compares what stands behind their lines."""

import ast
import re
import unittest
from pathlib import Path

from unmovedways import errors

README = Path(__file__).resolve().parent.parent / "README.md"


class ReadmeTest(unittest.TestCase):
    def test_examples(self):
        blocks = re.findall(r"```python\n(.*?)```", README.read_text(encoding="ascii"), re.DOTALL)
        self.assertGreater(len(blocks), 3)
        names = {}
        for line in "\n".join(blocks).split("\n"):
            code, _, told = line.partition("# ")
            with self.subTest(line=line):
                if told.startswith("raises"):
                    with self.assertRaises(getattr(errors, re.findall(r"\w+", told)[1])):
                        exec(code, names)
                elif told and self.is_value(told):
                    self.assertEqual(eval(code.strip(), names), ast.literal_eval(told))
                else:
                    exec(code, names)

    def is_value(self, text):
        try:
            ast.literal_eval(text)
        except (ValueError, SyntaxError):
            return False
        return True


if __name__ == "__main__":
    unittest.main()
