import doctest
import pathlib
import re
import unittest

README = pathlib.Path(__file__).resolve().parent.parent / "README.md"


class Readme(unittest.TestCase):
    def test_examples(self):
        blocks = re.findall(r"```\n(>>> .*?)```", README.read_text("utf-8"), re.S)
        examples = doctest.DocTestParser().get_doctest("\n".join(blocks), {}, "README.md", None, 0)
        # No example stands outside of these blocks.
        self.assertEqual(len(examples.examples), README.read_text("utf-8").count("\n>>> "))
        told = []
        doctest.DocTestRunner().run(examples, out=told.append)
        self.assertEqual("".join(told), "")


if __name__ == "__main__":
    unittest.main()
