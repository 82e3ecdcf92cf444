"""The session of the document's overview, and those of README.md, as they are typed."""

import doctest
import pathlib
import re
import unittest

README = pathlib.Path(__file__).resolve().parent.parent / "README.md"

OVERVIEW = """
>>> from restartable.scripts import run, stopped
>>> from restartable.verdicts import verdict
>>> from restartable.marks import fewest
>>> script = (3, (("copy", 1, 0), ("write", 0, 1), ("exchange", 1, 2)))
>>> run(script, (4, 5, 6)), stopped(script, (2,), (4, 5, 6))
((5, 6, 0), (0, 6, 0))
>>> verdict(script)
('stop', 2, (0, 1, 0))
>>> verdict((3, (("copy", 1, 0), ("write", 0, 2))))
('safe', (1,))
>>> fewest(script)
(1, 3)
"""


def typed(text, name):
    """The numbers of failed and of tried lines of a session."""
    session = doctest.DocTestParser().get_doctest(text, {}, name, name, 0)
    told = []
    found = doctest.DocTestRunner(verbose=False).run(session, out=told.append)
    return found.failed, found.attempted, "".join(told)


class SessionsTest(unittest.TestCase):
    def test_the_overview(self):
        failed, tried, told = typed(OVERVIEW, "overview")
        self.assertEqual((failed, tried), (0, 8), told)

    def test_the_readme(self):
        blocks = re.findall(r"^```\n(>>> .*?)^```$", README.read_text(), re.DOTALL | re.MULTILINE)
        self.assertEqual(len(blocks), 8)
        failed, _, told = typed("\n".join(blocks), "README.md")
        self.assertEqual(failed, 0, told)


if __name__ == "__main__":
    unittest.main()
