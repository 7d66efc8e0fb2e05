"""The rows of the document's Examples for the modules that are there."""

from everybowl.errors import OnLine
from everybowl.floors import Floor
from everybowl.tables import bends, unbend
from tests.helpers import Case


class Examples(Case):
    def test_points_on_a_line(self):
        self.refuses(OnLine((0, 1, 3)), Floor, [(0, 0), (1, 1), (5, 0), (3, 3)])

    def test_bends(self):
        self.same([bends([1, 3, 1]), unbend([1, 1, -4, 1, 1])], [[1, 1, -4, 1, 1], [1, 3, 1]])
