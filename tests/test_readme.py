"""The examples of README.md, as they are written."""

import doctest
import unittest
from pathlib import Path

README = Path(__file__).resolve().parent.parent / "README.md"


class ReadmeTest(unittest.TestCase):
    def test_examples(self):
        # the line that ends a block of code is not what an example returns
        text = README.read_text(encoding="utf-8").replace("```\n", "\n")
        test = doctest.DocTestParser().get_doctest(text, {}, "README.md", "README.md", 0)
        self.assertGreater(len(test.examples), 30)
        told = []
        results = doctest.DocTestRunner(verbose=False).run(test, out=told.append)
        self.assertEqual(results.failed, 0, "".join(told))


if __name__ == "__main__":
    unittest.main()
