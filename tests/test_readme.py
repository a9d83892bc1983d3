"""The examples of README.md tell what the program tells."""

import re
import unittest
from pathlib import Path

README = Path(__file__).resolve().parent.parent / "README.md"


class ReadmeTest(unittest.TestCase):

    def test_each_example_holds(self):
        names = {}
        held = 0
        for block in re.findall(r"```python\n(.*?)```", README.read_text("utf-8"), re.S):
            for line in block.splitlines():
                code, mark, wanted = line.partition("  # ")
                if mark:
                    self.assertEqual(eval(code, names), eval(wanted), line)
                    held += 1
                else:
                    exec(line, names)
        self.assertGreater(held, 20)


if __name__ == "__main__":
    unittest.main()
