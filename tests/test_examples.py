"""The rows of the document's Examples, and those of README.md."""

import doctest
from pathlib import Path

from everybowl.bowls import Bowl
from everybowl.circles import circle, inside_circle
from everybowl.desks import Desk
from everybowl.errors import Barred, OnLine
from everybowl.floors import Floor
from everybowl.floorways import floor_events
from everybowl.heightways import height_events
from everybowl.holds import held_by
from everybowl.hub import Rows
from everybowl.linerows import line_row
from everybowl.lowered import plane_for
from everybowl.papers import read_paper, write_paper
from everybowl.patterns import barred_part
from everybowl.planerows import plane_row
from everybowl.raised import Raised
from everybowl.spots import Spot
from everybowl.tables import bends, unbend
from everybowl.turning import exchange_places
from tests.helpers import Case


README = Path(__file__).resolve().parent.parent / "README.md"


class Examples(Case):
    def test_line_row(self):
        floor = Floor([(0, 0), (4, 0), (0, 4), (1, 1)])
        self.same(line_row(floor), [3, 6, 3])

    def test_points_on_a_line(self):
        self.refuses(OnLine((0, 1, 3)), Floor, [(0, 0), (1, 1), (5, 0), (3, 3)])

    def test_held_by(self):
        floor = Floor([(0, 0), (4, 0), (0, 4), (1, 1)])
        self.same(held_by(floor, 3), ((0, 1, 2), (2, 1, 1)))

    def test_bends(self):
        self.same([bends([1, 3, 1]), unbend([1, 1, -4, 1, 1])], [[1, 1, -4, 1, 1], [1, 3, 1]])

    def test_plane_row(self):
        floor = Floor([(0, 0), (4, 0), (0, 4), (1, 1)])
        self.same(plane_row(Bowl.circular(floor)), [3, 1])

    def test_circle(self):
        floor = Floor([(0, 0), (4, 0), (0, 4), (1, 1)])
        x, y, square = circle(floor, 0, 1, 3)
        self.same([x.text(), y.text(), square.text(), inside_circle(floor, 0, 1, 3)], ["2", "-1", "5", []])

    def test_rows(self):
        floor = Floor([(0, 0), (4, 0), (0, 4), (1, 1)])
        rows = Rows.of(floor)
        self.same([rows("lowered"), rows("cuts"), rows("nets"), rows.fours],
                  [[1, 4, 6, 3, 1], [1, 3, 6, 3, 1], [4, 3], 0])

    def test_barred_part(self):
        floor = Floor([(0, 0), (4, 0), (0, 4), (1, 1)])
        deep = Raised(floor, [0, 16, 16, 2])
        high = Raised(floor, [0, 0, 0, 5])
        self.same([barred_part(deep, 0, 1, 2, 3), barred_part(high, 0, 1, 2, 3)], [(0, 1, 2), (3,)])

    def test_plane_for(self):
        floor = Floor([(0, 0), (4, 0), (0, 4), (1, 1)])
        self.refuses(Barred((0, 1, 2, 3)), plane_for, Raised(floor, [0, 0, 0, 5]), [3])

    def test_spot(self):
        floor = Floor([(0, 0), (4, 0), (0, 4), (1, 1)])
        spot = Spot(floor, 2, 1)
        self.same([spot.spokes, spot.lefts, spot.row, spot.triangles()],
                  [(0, 1, 2, 3), (1, 1, 2, 2), [1, 1], [(0, 1, 2), (1, 2, 3)]])

    def test_exchange_places(self):
        floor = Floor([(0, 0), (4, 0), (0, 4), (1, 1)])
        self.same(exchange_places(floor), [(2, 3, 1), (1, 2, 2), (1, 3, 1), (0, 1, 0), (0, 3, 1), (0, 2, 2)])

    def test_floor_event(self):
        floor = Floor([(0, 0), (4, 0), (0, 4), (1, 1)])
        event = floor_events(floor, 3, 3, 3)[0]
        self.same([event.time.text(), event.middle, event.ends, event.left, event.right, event.to_right,
                   event.line_change], ["1/2", 3, (1, 2), 1, 0, True, [1, -2, 1]])

    def test_height_event(self):
        floor = Floor([(0, 0), (4, 0), (0, 4), (1, 1)])
        event = height_events(Raised(floor, [0, 0, 0, 5]), 3, -5)[0]
        self.same([event.time.text(), event.triangle, event.inner, event.level, event.rising, event.plane_change,
                   event.high_change], ["1/2", (0, 1, 2), 3, 0, False, [2, -2], [-1]])

    def test_desk(self):
        floor = Floor([(0, 0), (4, 0), (0, 4), (1, 1)])
        desk = Desk(floor, [0, 16, 16, 2])
        desk.lift(3, 9)
        before = [desk.planes, desk.highs, desk.done]
        desk.undo()
        self.same([before, desk.planes, desk.undone], [[[1, 3], [1], 1], [3, 1], 1])

    def test_papers(self):
        self.same([write_paper(("within", 3, (0, 1, 2), (2, 1, 1))), read_paper("high 3 0,1,2")],
                  ["within 3 0,1,2 2 1 1", ("high", 3, (0, 1, 2))])

    def test_readme(self):
        text = README.read_text("ascii").replace("```", "")
        rows = doctest.DocTestParser().get_doctest(text, {}, "README", None, 0)
        self.assertTrue(len(rows.examples) > 5)
        self.assertEqual(doctest.DocTestRunner().run(rows).failed, 0)
