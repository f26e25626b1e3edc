"""The examples of README.md."""

import unittest
from pathlib import Path

from examples import run_text
from same import SameCase

README = Path(__file__).resolve().parent.parent / "README.md"


class ReadmeTest(SameCase):
    def test_examples(self):
        blocks = [block for block in README.read_text().split("```") if block.startswith("\n>>> ")]
        self.assertTrue(blocks)
        for block in blocks:
            run_text(self, block)


if __name__ == "__main__":
    unittest.main()
