"""The example of README.md."""

import doctest
import pathlib
import unittest

README = pathlib.Path(__file__).resolve().parent.parent / "README.md"


class Readme(unittest.TestCase):
    def test_example(self):
        text = README.read_text(encoding="utf-8").replace("\n```", "\n\n")
        test = doctest.DocTestParser().get_doctest(text, {}, "README.md", str(README), 0)
        told = doctest.DocTestRunner().run(test)
        self.assertEqual(told.failed, 0)
        self.assertGreater(told.attempted, 4)


if __name__ == "__main__":
    unittest.main()
