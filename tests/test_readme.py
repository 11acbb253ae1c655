"""What README.md shows is what comes of it."""

import doctest
import pathlib
import re
import unittest

README = pathlib.Path(__file__).resolve().parent.parent / "README.md"


class Readme(unittest.TestCase):
    def test_examples(self):
        parts = re.findall(r"```python\n(.*?)```", README.read_text(encoding="utf-8"), re.DOTALL)
        # What stands between the two ends of a traceback is told by two dots there.
        text = "\n".join(parts).replace("\n    ..\n", "\n    ...\n")
        runner = doctest.DocTestRunner(verbose=False, optionflags=doctest.IGNORE_EXCEPTION_DETAIL)
        found = runner.run(doctest.DocTestParser().get_doctest(text, {}, "README.md", "README.md", 0))
        self.assertEqual(found.failed, 0)
        self.assertGreater(found.attempted, 50)


if __name__ == "__main__":
    unittest.main()
