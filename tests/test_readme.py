"""What README.md shows is what the program answers."""

import doctest


def load_tests(loader, tests, pattern):
    tests.addTests(doctest.DocFileSuite("../README.md"))
    return tests
