"""The points of a floor through the whole program: what its parts tell of the same points fits together."""

from itertools import combinations
from math import comb

from everybowl.bowls import Bowl
from everybowl.choices import choose
from everybowl.cuts import cut_counts, cuts
from everybowl.desks import Desk
from everybowl.exchanges import neighbour_counts
from everybowl.floors import Floor
from everybowl.floortexts import read_floor, read_raised, write_floor, write_raised
from everybowl.floorways import floor_events, travelled
from everybowl.fours import convex_fours, inner_pairs
from everybowl.heightways import height_events, lifted
from everybowl.hub import Rows
from everybowl.judge import accepted
from everybowl.kinds import kind_of, renamings
from everybowl.linerows import line_row
from everybowl.lowered import lowered_counts
from everybowl.nearest import hoop, nearest
from everybowl.papers import (
    bowl_paper, corner_paper, cut_paper, hoop_paper, read_paper, touch_paper, under_paper, write_paper,
)
from everybowl.planerows import deep_row, high_row, inner_row, plane_row
from everybowl.prices import cheapest, price_steps, prices_for
from everybowl.raised import Raised
from everybowl.rims import corners
from everybowl.scripts import read_script, run_script, write_script
from everybowl.sheets import event_sheet, row_sheet
from everybowl.spotrows import height_row
from everybowl.spots import Spot
from everybowl.touches import is_bowl
from everybowl.turning import exchange_places, orders, read_turns
from tests.desks import drawn_steps, refused_with
from tests.heights import bowl_heights, many_raised, subsets_of
from tests.helpers import SAMPLE, Case, all_floors, turn_of
from tests.test_floorways import added, difference, many_travels
from tests.test_nearest import first_ring
from tests.test_spots import drawn_spots


def counts_from_exchanges(floor):
    """The line row, told by the places of the exchanges (point 55)."""
    places = [place for _, _, place in exchange_places(floor)]
    return [places.count(j) + places.count(len(floor) - 2 - j) for j in range(len(floor) - 1)]


def row_of_points_as_spots(floor):
    """The inner row, told by each point as a spot over the others (point 51)."""
    rows = [Spot(floor.without(k), *floor[k]).row for k in range(len(floor))]
    return [sum(column) for column in zip(*rows)]


class Travels(Case):
    def test_rows_before_and_after(self):
        for floor, number, goal in many_travels()[::2]:
            n, after = len(floor), travelled(floor, number, *goal)
            events = floor_events(floor, number, *goal)
            steps = added([event.line_change for event in events], n - 1)
            self.same([first + step for first, step in zip(counts_from_exchanges(floor), steps)],
                      counts_from_exchanges(after))
            planes = added([event.plane_change for event in events], n - 2)
            bowls = [plane_row(Bowl(some, bowl_heights(some, number))) for some in (floor, after)]
            self.same(difference(bowls[1], bowls[0]), planes)
            fours = sum([event.fours_change for event in events])
            self.same(Rows.of(after).fours - Rows.of(floor).fours, fours)
            self.same(len(inner_pairs(floor)) - len(inner_pairs(after)), fours)
            self.same(len(event_sheet(events)), len(events))

    def test_a_travel_that_meets_no_line_keeps_the_kind(self):
        kept = 0
        for floor, number, goal in many_travels():
            after = travelled(floor, number, *goal)
            if floor_events(floor, number, *goal) == []:
                self.same(kind_of(after) == kind_of(floor), True)
                self.assertIn(tuple(range(len(floor))), renamings(floor, after))
                kept += 1
            elif len(floor_events(floor, number, *goal)) == 1:
                self.assertNotIn(tuple(range(len(floor))), renamings(floor, after))
        self.assertTrue(kept > 20)


class OneFloor(Case):
    def test_turning_spots_rows_and_kinds(self):
        for floor in all_floors():
            n, rows = len(floor), Rows.of(floor)
            self.same(counts_from_exchanges(floor), rows("lines"))
            self.same(cut_counts(floor), rows("cuts"))
            if n > 3:
                self.same(row_of_points_as_spots(floor), rows("inner"))
            pairs = [(a, b) for a, b, _ in exchange_places(floor)]
            turns = read_turns(next(iter(orders(floor))), pairs)
            self.same(turns, [(*three, turn_of(floor, *three)) for three in combinations(range(n), 3)])
            self.assertTrue(1 <= len(renamings(floor, floor)) <= len(corners(floor)) == rows("lines")[0])
            self.same(kind_of(read_floor(write_floor(floor))) == kind_of(floor), True)
            self.same(Rows.made("lines", line_row(floor)) == rows, True)
            self.same([line.split()[0] for line in row_sheet(rows)], list(Rows.FORMS))

    def test_heights_over_it(self):
        for raised in many_raised()[::3]:
            floor, n = raised.floor, len(raised)
            rows = Rows.of(floor)
            self.same(inner_row(raised), rows("inner"))
            self.same(is_bowl(raised), plane_row(raised) == rows("planes"))
            self.same(is_bowl(raised), lowered_counts(raised)[1] == n)
            self.same(sum(lowered_counts(raised)), 1 + n + comb(n, 2) + comb(n, 3))
            self.same(sum(high_row(raised)) + sum(deep_row(raised)), choose(n, 4) - convex_fours(floor))
            for spot in drawn_spots(floor, n, 2):
                self.same(height_row(raised, spot), height_row(-raised, spot))
            counts = [0, 0, *plane_row(raised), 0]
            self.same([2 * count for count in neighbour_counts(raised)],
                      [0, *[3 * (counts[k + 1] + counts[k]) + cut_counts(floor)[k] for k in range(1, n)], 0])

    def test_cut_off_is_nearest_and_cheapest(self):
        for floor in [floor for floor in all_floors()[::5] if first_ring(floor) is None]:
            bowl = Bowl.circular(floor)
            for size in range(1, len(floor)):
                for subset in cuts(floor, size)[::3]:
                    x, y, _ = hoop(floor, subset)
                    self.same(nearest(floor, x, y, size), subset)
                    alpha, beta = prices_for(bowl, subset)
                    self.same(cheapest(bowl, alpha, beta, size), subset)
                    other = prices_for(bowl, cuts(floor, size)[0])
                    steps = refused_with(lambda: list(price_steps(bowl, (alpha, beta), other, size)))
                    if isinstance(steps, list):
                        present = set(subset)
                        for _, gone, come in steps:
                            present = present - {gone} | {come}
                        self.same(tuple(sorted(present)), cuts(floor, size)[0])


class Papers(Case):
    def test_papers_of_a_desk(self):
        """All papers about the present points of a desk are accepted, also when they were written and read."""
        seen = set()
        for seed in range(24):
            floor = Floor(SAMPLE) if seed % 4 == 0 else all_floors()[seed]
            desk = Desk(floor, bowl_heights(floor, seed))
            for word, *numbers in drawn_steps(seed, len(floor), 12):
                refused_with(getattr(desk, word), *numbers)
            raised, n = desk.raised, len(desk)
            papers = [bowl_paper(raised)]
            for number in range(n):
                papers += [corner_paper(raised.floor, number), touch_paper(raised, number)]
            for subset in subsets_of(n)[::17]:
                papers += [cut_paper(raised.floor, subset), under_paper(raised, subset)]
                papers += [] if first_ring(raised.floor) else [hoop_paper(raised.floor, subset)]
            again = read_raised(write_raised(raised))
            self.same(accepted(again, *[read_paper(write_paper(paper)) for paper in papers]), [True] * len(papers))
            seen |= {paper[0] for paper in papers}
        self.assertTrue(len(seen) > 8)


class Desks(Case):
    def test_events_of_the_steps_of_a_script(self):
        """The changes of all events on the way of a desk add up to the differences of its rows."""
        moved = 0
        for seed in range(30):
            floor = all_floors()[seed + 8]
            desk, n = Desk(floor, bowl_heights(floor, seed)), len(floor)
            steps = [step for step in drawn_steps(seed, n, 60) if step[0] in ("move", "lift")]
            lines, highs = desk.lines, desk.highs
            for step in read_script(write_script(steps)):
                before = desk.raised
                if isinstance(refused_with(lambda: run_script(desk, [step])), int):
                    word, *numbers = step
                    if word == "move":
                        events = refused_with(lambda: floor_events(before.floor, *numbers))
                        rows = [event.line_change for event in events] if isinstance(events, list) else None
                        lines = [a + b for a, b in zip(lines, added(rows, n - 1))] if rows is not None else desk.lines
                        highs = desk.highs
                    else:
                        rows = [event.high_change for event in height_events(before, *numbers)]
                        highs = [a + b for a, b in zip(highs, added(rows, n - 3))]
                        self.same(lifted(before, *numbers) == desk.raised, True)
                    self.same([desk.lines, desk.highs], [lines, highs])
                    moved += 1
            while desk.done:
                desk.undo()
            self.same(desk.raised.floor == floor, True)
        self.assertTrue(moved > 200)

    def test_a_trial_leaves_all_rows(self):
        for seed in range(20):
            floor = all_floors()[seed]
            desk = Desk(floor, bowl_heights(floor, seed))
            before = (desk.lines, desk.planes, desk.highs, row_sheet(Rows.of(desk.raised.floor)))
            steps = [*drawn_steps(seed, len(floor), 9), ("drop", -1)]
            self.assertTrue(refused_with(lambda: run_script(desk, steps, whole=True)).place <= 9)
            self.same((desk.lines, desk.planes, desk.highs, row_sheet(Rows.of(desk.raised.floor))), before)
            self.same(desk.raised == Raised(floor, bowl_heights(floor, seed)), True)
