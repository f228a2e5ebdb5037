"""All examples of the document, as they stand there (examples.txt)."""

import os
import unittest

from treerooms import errors
from treerooms.base import leading, rooms
from treerooms.counts import forms, stocks, sums
from treerooms.desk import desk as desks
from treerooms.kin import changes, slides
from treerooms.tables import fours
from treerooms.text import texts
from treerooms.trees import alike, tree
from treerooms.trees import lines as line_words
from treerooms.webs import plain, roads, webs
from treerooms.worlds import common, cores, free, own, worlds

EXAMPLES = os.path.join(os.path.dirname(os.path.abspath(__file__)), "examples.txt")
MODULES = (
    errors, rooms, leading, webs, roads, plain, tree, line_words, alike, worlds, cores, own, common, free, changes, slides, stocks, forms,
    sums, fours, desks, texts,
)
# How many examples that return or raise something each section has.
MANY = {
    "Examples": 0,
    "Stage 1: rooms": 6,
    "Stage 2: rooms led into rooms": 5,
    "Stage 3: webs of rooms": 5,
    "Stage 4: roads, exchanges and pinches": 6,
    "Stage 5: plain roads, and words as a whole": 6,
    "Stage 6: the tree": 5,
    "Stage 7: words that come round, and lines of long words": 6,
    "Stage 8: words that are alike": 5,
    "Stage 9: worlds": 6,
    "Stage 10: stocks and their cores": 7,
    "Stage 11: the web of rooms of a stock": 4,
    "Stage 12: words common to two stocks": 3,
    "Stage 13: what the fraction tells, and free stocks": 5,
    "Stage 14: changes of webs that keep the words": 4,
    "Stage 15: slides, and webs that are kin": 5,
    "Stage 16: how many worlds and stocks there are": 5,
    "Stage 17: plain words by ties, and far powers": 5,
    "Stage 18: sums of words, and renamings that keep the web": 4,
    "Stage 19: tables of four integers": 4,
    "Stage 20: a desk of words": 9,
}


def names():
    """What the sections' modules define."""
    known = {}
    for module in MODULES:
        known.update({name: thing for name, thing in vars(module).items() if not name.startswith("_")})
    return known


def sections():
    """The lines of each section of the examples, by its heading."""
    found = {}
    with open(EXAMPLES, encoding="ascii") as file:
        for line in file.read().splitlines():
            if line.startswith("# "):
                heading = line[2:]
                found[heading] = []
            else:
                found[heading].append(line)
    return found


class Examples(unittest.TestCase):
    def setUp(self):
        self.known = names()
        self.sections = sections()
        self.run_lines(self.sections["Examples"])

    def run_lines(self, lines):
        """Run the lines; the number of answers that were compared."""
        many = 0
        for at, line in enumerate(lines):
            if not line.startswith(">>> "):
                continue
            answer = lines[at + 1] if at + 1 < len(lines) else ">>> "
            if answer.startswith(">>> "):
                exec(line[4:], self.known)
                continue
            many += 1
            with self.subTest(line=line):
                self.compare(line[4:], answer)
        return many

    def compare(self, call, answer):
        if not answer.startswith("raises "):
            self.assertEqual(repr(eval(call, self.known)), answer)
            return
        wanted = eval(answer[len("raises "):], self.known)
        kind = wanted if isinstance(wanted, type) else type(wanted)
        with self.assertRaises(kind) as caught:
            eval(call, self.known)
        if wanted is not kind:
            self.assertEqual(vars(caught.exception), vars(wanted))

    def test_each_section(self):
        self.assertEqual(list(self.sections), list(MANY))
        for heading, lines in self.sections.items():
            self.setUp()
            self.assertEqual(self.run_lines(lines), MANY[heading], heading)


if __name__ == "__main__":
    unittest.main()
