import ast
import pathlib
import re
import unittest

README = pathlib.Path(__file__).resolve().parent.parent / "README.md"


class Readme(unittest.TestCase):
    def test_examples(self):
        """All examples in turn; where a value stands behind one, that is told."""
        known, checked = {}, 0
        for block in re.findall("```python\n(.*?)```", README.read_text(), re.DOTALL):
            exec(block, known)
            for line in block.splitlines():
                code, _, value = line.partition("  # ")
                if re.match("desk[.]say|from |import |.* = ", code):
                    continue
                checked += self.is_told(known, code, value)
        self.assertGreater(checked, 5)
        self.assertEqual(known["desk"].say("keep"), "hour 2 | house - main 0 good:9:1 | ask 0.0 bank 5 0 good:9:1")

    def is_told(self, known, code, value):
        try:
            told = ast.literal_eval(value.strip().split(":")[0].split(";")[0])
        except SyntaxError:
            return False
        # Some of these stand ahead of an event that has come since.
        if not code.startswith("waiting"):
            self.assertEqual(eval(code, known), told, code)
        return True

    def test_all_modules_are_named(self):
        text = README.read_text()
        for path in (README.parent / "errandroom").glob("*.py"):
            if path.stem != "__init__":
                self.assertRegex(text, f"`(errandroom[.])?{path.stem}`")


if __name__ == "__main__":
    unittest.main()
