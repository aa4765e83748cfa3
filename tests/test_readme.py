"""README.md tells what its examples print, and how to run the tests."""

import contextlib
import io
import pathlib
import re
import unittest

TEXT = (pathlib.Path(__file__).resolve().parent.parent / "README.md").read_text(encoding="utf-8")


class ReadmeTest(unittest.TestCase):
    def test_its_examples(self):
        for code in re.findall(r"```python\n(.*?)```", TEXT, re.S):
            told = [line.rsplit("# ", 1)[1] for line in code.splitlines() if line.startswith("print")]
            printed = io.StringIO()
            with contextlib.redirect_stdout(printed):
                exec(code, {})
            self.assertEqual(printed.getvalue().splitlines(), told)
            self.assertTrue(told)

    def test_how_to_run_the_tests(self):
        self.assertIn("python3 -m unittest discover -s tests -t .", TEXT)
        self.assertIn(".ci/run", TEXT)


if __name__ == "__main__":
    unittest.main()
