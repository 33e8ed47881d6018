"""The examples of README.md tell what the program returns."""

import doctest
import unittest
from pathlib import Path

README = Path(__file__).resolve().parent.parent / "README.md"


class Readme(unittest.TestCase):
    def test_examples(self):
        # A closing fence stands where doctest looks for the end of an output.
        text = README.read_text(encoding="utf-8").replace("```", "")
        told = doctest.DocTestParser().get_doctest(text, {}, "README", str(README), 0)
        runner = doctest.DocTestRunner(verbose=False)
        runner.run(told)
        self.assertGreater(runner.tries, 5)
        self.assertEqual(runner.failures, 0)


if __name__ == "__main__":
    unittest.main()
