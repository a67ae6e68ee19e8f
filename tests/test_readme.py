"""The examples of README.md: that they run, and that what stands behind their lines is what they return."""

import os
import re
import unittest

ROOT = os.path.dirname(os.path.dirname(os.path.abspath(__file__)))


def examples():
    """The lines of all examples, each block behind the others."""
    with open(os.path.join(ROOT, "README.md"), encoding="utf-8") as file:
        blocks = re.findall(r"```python\n(.*?)```", file.read(), re.DOTALL)
    return "\n".join(blocks)


class ReadmeTest(unittest.TestCase):
    def test_examples_run(self):
        names = {}
        exec(compile(examples(), "README.md", "exec"), names)
        self.assertIn("compared", names)

    def test_results_that_stand_behind_calls(self):
        names = {}
        lines = examples().split("\n")
        checked = 0
        for at, line in enumerate(lines):
            found = re.match(r"^(\S.*?)  +# (None|True|-?\d+|\(.*?\))(: .*|;.*)?$", line)
            if not found or "=" in found.group(1).replace("==", ""):
                continue
            text = found.group(2)
            try:
                expected = eval(text)
            except (NameError, SyntaxError):
                continue
            names = {}
            exec(compile("\n".join(lines[:at]), "README.md", "exec"), names)
            self.assertEqual(eval(found.group(1), names), expected, line)
            checked += 1
        self.assertGreater(checked, 20)


if __name__ == "__main__":
    unittest.main()
