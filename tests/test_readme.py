"""The examples of README.md give what they say."""

import ast
import re
import unittest
from pathlib import Path

README = Path(__file__).resolve().parent.parent / "README.md"


def said(comment):
    """The value that the comment behind an expression writes, in a tuple of its own, or None if it writes none."""
    # Words may follow, behind a colon.
    for end in [len(comment)] + [found.start() for found in re.finditer(": ", comment)]:
        try:
            return (ast.literal_eval(comment[:end].split("; ")[0]),)
        except (SyntaxError, ValueError):
            pass
    return None


class ReadmeTest(unittest.TestCase):

    def test_the_examples(self):
        names, looked_at = {}, 0
        for block in re.findall("```python\n(.*?)```", README.read_text(encoding="utf-8"), re.DOTALL):
            for line in block.splitlines():
                code, _, comment = line.partition("  # ")
                with self.subTest(line):
                    if re.match(r"(from|#|\w+ = |$)", code):
                        exec(code, names)
                        continue
                    value = eval(code, names)
                    told = said(comment.strip())
                    if told is not None:
                        self.assertEqual(value, told[0])
                        looked_at += 1
        self.assertGreater(looked_at, 50)

    def test_every_file_is_named(self):
        text = README.read_text(encoding="utf-8")
        for name in ("errors tasks views algorithms steps leading widening renaming deciding easings networks quickness "
                     "kinds covers relays book texts").split():
            self.assertIn(f"`looksfar.{name}`", text)


if __name__ == "__main__":
    unittest.main()
