"""The examples of the document, and those of README.md."""

import pathlib
import unittest

from lookdown.alone import alone, own
from lookdown.books import Book
from lookdown.finding import best
from lookdown.judging import beaten, extras, undercut
from lookdown.searching import cheapest
from lookdown.standings import standings
from lookdown.tight import free_limit, least_limit, tight
from lookdown.verdicts import wides
from lookdown.webs import Web

README = pathlib.Path(__file__).resolve().parent.parent / "README.md"

chain = Book(
    (0, 1, 1),
    3,
    ((0, (), 0, 1), (0, (), 1, 1), (1, (0,), 0, 1), (1, (1,), 1, 1), (2, (0,), 2, 2), (2, (1,), 2, 3)),
    (),
)
steps = Web(((0, ()), (1, (0,)), (2, (1,))))


class ExamplesTest(unittest.TestCase):
    def test_e01(self):
        self.assertEqual((alone(chain, steps)[(2, 2)], own(chain, steps)[(2, 2)]), (4, ("rule", 4)))

    def test_e02(self):
        self.assertEqual(undercut(chain, steps, own(chain, steps)), ((2, 2), ("rule", 5)))
        self.assertEqual(extras(chain, steps, own(chain, steps))[((2, 2), ("rule", 5))], 4)

    def test_e03(self):
        self.assertEqual(beaten(chain, steps, own(chain, steps))[0], ((1, 1), (2, 2)))
        self.assertEqual(cheapest(chain, steps, ((1, 1), (2, 2)))[0], 5)
        self.assertIsNone(best(chain, steps))

    def test_e04(self):
        self.assertEqual(len(standings(chain)), 4)
        self.assertEqual((wides(chain)[(0, 0, 1)], wides(chain)[(1, 0, 1)]), (1, None))

    def test_e05(self):
        self.assertEqual(tight(chain, steps, ((1, 1), (2, 2)), (None, None, None))[0], 5)
        self.assertEqual(least_limit(chain, steps, ((2, 2),), 0), 0)
        self.assertEqual(free_limit(chain, steps, ((2, 2),), 0), 2)

    def test_the_examples_of_the_readme(self):
        lines = [line[4:] for line in README.read_text().split("\n") if line.startswith("    ")]
        script = []
        for line in lines:
            code, _, told = line.partition("  # ")
            # What stands behind the sign is what the line gives.
            script.append(f"assert ({code}) == ({told}), {code!r}" if told else code)
        script = [line for line in script if not line.startswith("python3")]
        self.assertGreater(len([line for line in script if line.startswith("assert")]), 8)
        exec("\n".join(script), {})


if __name__ == "__main__":
    unittest.main()
