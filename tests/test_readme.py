"""The examples of README.md: what stands behind the mark # is what is told."""

import ast
import pathlib
import re
import unittest

README = pathlib.Path(__file__).resolve().parent.parent / "README.md"


def value_written(remark):
    """The value with which a remark begins, or None where it begins with words; in a tuple, to tell it from None."""
    for end in [len(remark)] + [place for place, sign in enumerate(remark) if sign == ":"]:
        try:
            return (ast.literal_eval(remark[:end]),)
        except (SyntaxError, ValueError):
            pass
    return None


class TestReadme(unittest.TestCase):
    def test_examples(self):
        code = re.search(r"```python\n(.*?)```", README.read_text(), re.S).group(1)
        known = {}
        held = 0
        for line in code.split("\n"):
            source, mark, remark = line.partition(" # ")
            due = value_written(remark.strip()) if mark else None
            if due is None:
                exec(line, known)
            else:
                self.assertEqual(eval(source, known), due[0], line)
                held += 1
        self.assertGreater(held, 50)
