"""The examples of README.md."""

import os
import re
import unittest

README = os.path.join(os.path.dirname(os.path.abspath(__file__)), os.pardir, "README.md")


def examples():
    """Yield the lines of code of README.md with what is told of them."""
    with open(README, encoding="utf-8") as file:
        text = file.read()
    for block in re.findall(r"```python\n(.*?)```", text, re.S):
        for line in block.splitlines():
            code, _, told = line.partition("#")
            if code.strip():
                yield code.strip(), told.strip()


class Readme(unittest.TestCase):
    def test_examples(self):
        names = {}
        shown = 0
        for code, told in examples():
            if told:
                self.assertEqual(eval(code, names), eval(told, names), code)
                shown += 1
            else:
                exec(code, names)
        self.assertGreater(shown, 20)


if __name__ == "__main__":
    unittest.main()
