"""The examples of README.md do what they say."""

import doctest
import unittest
from pathlib import Path

README = Path(__file__).resolve().parent.parent / "README.md"


class Readme(unittest.TestCase):

    def test_examples(self):
        text = "\n".join("" if line == "```" else line for line in README.read_text().splitlines())
        examples = doctest.DocTestParser().get_examples(text)
        self.assertGreater(len(examples), 30)
        names = {}
        for example in examples:
            if example.want:
                self.assertEqual(repr(eval(example.source, names)) + "\n", example.want)
            else:
                exec(example.source, names)


if __name__ == "__main__":
    unittest.main()
