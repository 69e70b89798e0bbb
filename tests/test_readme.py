"""The example of README.md tells what its comments say."""

import re
import unittest
from pathlib import Path

README = Path(__file__).resolve().parent.parent / "README.md"


class Readme(unittest.TestCase):
    def test_example(self):
        example = re.search("```python\n(.*?)```", README.read_text("utf-8"), re.DOTALL).group(1)
        names, checked = {}, 0
        for line in example.splitlines():
            shown = re.search(r"^(.*\S) +# (\[.*\]|\d+)", line)
            if shown:
                self.assertEqual(repr(eval(shown.group(1), names)), shown.group(2), line)
                checked += 1
            else:
                exec(line, names)
        self.assertEqual(checked, 11)


if __name__ == "__main__":
    unittest.main()
