"""The examples of the document and of README.md, as doctest goes through them."""

import doctest
from pathlib import Path

HERE = Path(__file__).resolve().parent


def examples_in(path):
    """The examples of a file as one test; the marks around code are no answers."""
    text = path.read_text().replace("```", "")
    return doctest.DocTestCase(doctest.DocTestParser().get_doctest(text, {}, path.name, str(path), 0))


def load_tests(loader, tests, pattern):
    tests.addTests([examples_in(HERE / "examples.txt"), examples_in(HERE.parent / "README.md")])
    return tests
