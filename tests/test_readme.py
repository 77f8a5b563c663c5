"""What README.md shows is what the program tells."""

import ast
import pathlib
import re
import unittest

README = pathlib.Path(__file__).resolve().parent.parent / "README.md"


class Readme(unittest.TestCase):
    def test_each_example(self):
        shown = 0
        for block in re.findall(r"```python\n(.*?)```", README.read_text("utf-8"), re.DOTALL):
            names = {}
            for line in block.splitlines():
                asked, _, told = line.partition("#")
                if not line.strip():
                    continue
                if not isinstance(ast.parse(asked.strip()).body[0], ast.Expr):
                    exec(asked, names)
                    continue
                answer = repr(eval(asked.strip(), names)).replace("'", '"')
                self.assertTrue(re.match(re.escape(answer) + r"($|[:;])", told.strip()), (line, answer))
                shown += 1
        self.assertGreater(shown, 30)

    def test_it_says_how_to_run_the_tests(self):
        self.assertIn(".ci/run", README.read_text("utf-8"))


if __name__ == "__main__":
    unittest.main()
