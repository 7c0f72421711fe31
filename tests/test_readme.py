"""The examples of README.md say what the program does."""

import doctest
import pathlib
import unittest


class Readme(unittest.TestCase):
    def test_its_examples(self):
        path = pathlib.Path(__file__).resolve().parent.parent / "README.md"
        # The fences of the examples would be taken for what is shown.
        text = path.read_text(encoding="utf-8").replace("```", "")
        examples = doctest.DocTestParser().get_doctest(text, {}, "README.md", str(path), 0)
        self.assertGreater(len(examples.examples), 10)
        self.assertEqual(doctest.DocTestRunner(verbose=False).run(examples).failed, 0)


if __name__ == "__main__":
    unittest.main()
