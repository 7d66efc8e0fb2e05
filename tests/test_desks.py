"""Points 62 to 64: desks."""

from itertools import combinations, permutations

from everybowl.bowls import Bowl
from everybowl.desks import Desk
from everybowl.errors import (
    NoPoint, NothingDone, NothingUndone, OnLine, OnPlane, TooFar, TooMany, WrongCount,
)
from everybowl.floors import Floor
from everybowl.linerows import line_row
from everybowl.planerows import high_row, plane_row
from everybowl.raised import Raised
from tests.desks import Told, drawn_steps, history, refused_with, state
from tests.heights import DEEP, HIGH, HUGE, bowl_heights, extreme_raised, many_raised
from tests.helpers import FAR, ROUND, SAMPLE, Case


def sample_desk():
    return Desk(Floor(SAMPLE), DEEP)


def full_desk():
    floor = Floor(ROUND)
    return Desk(floor, bowl_heights(floor, 1))


class Present(Case):
    def test_raised(self):
        for raised in [*many_raised()[::5], *extreme_raised()[::5]]:
            desk = Desk(raised.floor, list(raised.heights))
            self.assertIs(desk.raised.__class__, Raised)
            self.same(desk.raised == raised, True)
            self.same(state(desk)[2:], (10, 0, 0, False, len(raised)))
            self.same([desk.lines, desk.planes, desk.highs],
                      [line_row(raised.floor), plane_row(raised), high_row(raised)])

    def test_plain_after_each_deed(self):
        floor = Floor(SAMPLE)
        desk = Desk(floor, Bowl.circular(floor).heights)
        for act, numbers in ((desk.add, (5, 7, 99)), (desk.move, (4, 6, 7)), (desk.lift, (4, 98)), (desk.drop, (0,)),
                             (desk.undo, ()), (desk.redo, ())):
            act(*numbers)
            self.assertIs(desk.raised.__class__, Raised)

    def test_errors_of_raised(self):
        floor = Floor(SAMPLE)
        self.refuses(WrongCount(3), Desk, floor, [0, 1, HIGH + 1])
        self.refuses(WrongCount(5), Desk, floor, [0, 1, 2, 3, 4])
        self.refuses(TooFar(-HIGH - 1), Desk, floor, [0, 0, -HIGH - 1, 0])
        self.refuses(OnPlane((0, 1, 2, 3)), Desk, floor, [0, 0, 0, 0])

    def test_rows_of_the_present_points(self):
        desk = sample_desk()
        self.same([desk.lines, desk.planes, desk.highs], [[3, 6, 3], [3, 1], [0]])
        desk.move(3, 3, 3)
        self.same(desk.lines, [4, 4, 4])
        desk.drop(3)
        self.same([desk.lines, desk.planes, desk.highs], [[3, 3], [1], []])
        for name in ("lines", "planes", "highs"):
            before = list(getattr(desk, name))
            getattr(desk, name).append("more")
            self.same(getattr(desk, name), before)

    def test_rows_while_points_are_dropped(self):
        for raised in many_raised()[::6]:
            desk = Desk(raised.floor, raised.heights)
            while len(desk) > 3:
                n, now = len(desk), desk.raised
                lefts = [len(now.floor.left_of(a, b)) for a, b in permutations(range(n), 2)]
                belows = [len(now.below(*three)) for three in combinations(range(n), 3)]
                self.same(desk.lines, [lefts.count(j) for j in range(n - 1)])
                self.same(desk.planes, [belows.count(j) for j in range(n - 2)])
                self.same(desk.highs, high_row(now))
                desk.drop(n // 2)

    def test_list_of_heights_is_copied(self):
        heights = list(DEEP)
        desk = Desk(Floor(SAMPLE), heights)
        heights[0] = 99
        self.same(desk.raised.heights, tuple(DEEP))
        desk.lift(0, -7)
        self.same(heights, [99, *DEEP[1:]])


class Deeds(Case):
    def test_what_they_return(self):
        desk = sample_desk()
        self.same([desk.add(5, 7, 99), desk.add(-3, 8, 5), len(desk)], [4, 5, 6])
        self.same([desk.drop(1), desk.move(0, -1, -3), desk.lift(2, 44), desk.set_limit(9)], [None] * 4)
        self.same([desk.undo(), desk.redo()], [None, None])
        self.same([desk.raised.floor.points, desk.raised.heights],
                  [((-1, -3), (0, 4), (1, 1), (5, 7), (-3, 8)), (0, 16, 44, 99, 5)])

    def test_deeds_that_leave_the_points(self):
        desk = sample_desk()
        desk.move(1, *SAMPLE[1])
        desk.lift(2, DEEP[2])
        self.same(state(desk), (tuple(SAMPLE), tuple(DEEP), 10, 2, 0, False, 4))
        desk.undo()
        desk.lift(2, DEEP[2])
        self.same([desk.done, desk.undone], [2, 0])

    def refused(self, desk, error, act, *numbers):
        """The deed is refused, and the desk stays as it was, with all that it remembers."""
        before, past = state(desk), history(desk)
        self.refuses(error, getattr(desk, act), *numbers)
        self.same([state(desk), history(desk)], [before, past])

    def test_errors_of_add(self):
        for desk in (sample_desk(), full_desk(), self.desk_of_three()):
            if len(desk) < 10:
                desk.set_limit(len(desk))
            for wrong in (FAR + 1, -FAR - 1, HUGE, -HUGE):
                self.refused(desk, TooFar(wrong), "add", wrong, -FAR - 2, HIGH + 2)
                self.refused(desk, TooFar(wrong), "add", 0, wrong, HIGH + 2)
            for wrong in (HIGH + 1, -HIGH - 1, HUGE, -HUGE):
                self.refused(desk, TooFar(wrong), "add", 0, 0, wrong)
            # The place of point 0 is on a line with it and each other point.
            self.refused(desk, TooMany(len(desk)), "add", *desk.raised.floor[0], 5)
        desk = sample_desk()
        self.refused(desk, OnLine((0, 1, 4)), "add", 2, 0, 0)
        self.refused(desk, OnLine((0, 1, 4)), "add", 0, 0, 0)
        self.refused(desk, OnPlane((0, 1, 2, 4)), "add", 3, 2, 20)

    def desk_of_three(self):
        return Desk(Floor(SAMPLE[:3]), DEEP[:3])

    def test_errors_of_drop(self):
        for desk in (sample_desk(), full_desk(), self.desk_of_three()):
            for wrong in (-1, len(desk), HUGE, -HUGE):
                self.refused(desk, NoPoint(wrong), "drop", wrong)
        for number in range(3):
            self.refused(self.desk_of_three(), WrongCount(2), "drop", number)

    def test_errors_of_move(self):
        for desk in (sample_desk(), full_desk()):
            for wrong in (-1, len(desk), HUGE, -HUGE):
                self.refused(desk, NoPoint(wrong), "move", wrong, FAR + 1, FAR + 1)
            for wrong in (FAR + 1, -FAR - 1, HUGE, -HUGE):
                self.refused(desk, TooFar(wrong), "move", 3, wrong, FAR + 7)
                self.refused(desk, TooFar(wrong), "move", 3, 5, wrong)
        desk = sample_desk()
        self.refused(desk, OnLine((0, 1, 3)), "move", 3, 0, 0)
        self.refused(desk, OnLine((1, 2, 3)), "move", 3, 1, 3)
        flat = Desk(Floor([*SAMPLE[:3], (1, 2)]), [0, 16, 16, 8])
        self.refused(flat, OnPlane((0, 1, 2, 3)), "move", 3, 1, 1)

    def test_errors_of_lift(self):
        for desk in (sample_desk(), full_desk()):
            for wrong in (-1, len(desk), HUGE, -HUGE):
                self.refused(desk, NoPoint(wrong), "lift", wrong, HIGH + 1)
            for wrong in (HIGH + 1, -HIGH - 1, HUGE, -HUGE):
                self.refused(desk, TooFar(wrong), "lift", 3, wrong)
        self.refused(sample_desk(), OnPlane((0, 1, 2, 3)), "lift", 3, 8)

    def test_a_full_desk(self):
        desk = full_desk()
        desk.lift(9, HIGH)
        desk.lift(9, -HIGH)
        desk.move(9, -20, -9)
        desk.drop(4)
        self.same([desk.add(4, 16, 3), len(desk)], [9, 10])
        self.refused(desk, TooMany(10), "add", 50, 51, 52)

    def test_two_desks(self):
        first, second = sample_desk(), sample_desk()
        first.lift(0, 7)
        first.set_limit(5)
        self.same(state(second), (tuple(SAMPLE), tuple(DEEP), 10, 0, 0, False, 4))
        second.add(7, 5, 1)
        second.undo()
        self.same([state(first)[1:5], state(second)[1:5]], [((7, *DEEP[1:]), 5, 1, 0), (tuple(DEEP), 10, 0, 1)])


class Limits(Case):
    def test_set_limit(self):
        desk = sample_desk()
        for limit in (4, 10, 7, 7):
            self.same([desk.set_limit(limit), desk.limit, desk.done], [None, limit, 0])
        for wrong in (2, 11, 0, -4, HUGE, -HUGE):
            self.refuses(TooFar(wrong), desk.set_limit, wrong)
        self.refuses(TooMany(3), desk.set_limit, 3)
        self.same(desk.limit, 7)
        self.refuses(TooFar(2), full_desk().set_limit, 2)
        for limit in range(3, 10):
            self.refuses(TooMany(limit), full_desk().set_limit, limit)

    def test_undo_and_redo_do_not_look_at_it(self):
        desk = sample_desk()
        desk.add(5, 7, 99)
        desk.drop(4)
        desk.set_limit(4)
        desk.undo()
        self.same([len(desk), desk.limit], [5, 4])
        # More points than its limit: it cannot even be set to what it is.
        self.refuses(TooMany(4), desk.set_limit, 4)
        self.refuses(TooMany(4), desk.add, 50, 51, 52)
        self.same([desk.lift(4, 3), len(desk), desk.limit], [None, 5, 4])
        desk = sample_desk()
        desk.add(5, 7, 99)
        desk.undo()
        desk.set_limit(4)
        desk.redo()
        self.same([len(desk), desk.limit, desk.done, desk.undone], [5, 4, 1, 0])

    def test_the_limit_is_no_deed(self):
        desk = sample_desk()
        desk.lift(0, 7)
        desk.undo()
        desk.set_limit(6)
        self.same([desk.done, desk.undone], [0, 1])
        desk.redo()
        self.same([desk.limit, desk.raised.heights[0]], [6, 7])
        desk.undo()
        self.refuses(NothingDone(), desk.undo)
        self.same(desk.limit, 6)


class UndoAndRedo(Case):
    def test_each_kind_of_deed(self):
        for act, numbers in (("add", (5, 7, 99)), ("drop", (1,)), ("move", (2, -3, 8)), ("lift", (0, 5)),
                             ("lift", (0, 0)), ("move", (0, 0, 0))):
            desk = sample_desk()
            before = state(desk)
            getattr(desk, act)(*numbers)
            after = state(desk)
            self.same(after[3:5], (1, 0))
            for _ in range(3):
                desk.undo()
                self.same(state(desk), (*before[:3], 0, 1, *before[5:]))
                self.refuses(NothingDone(), desk.undo)
                desk.redo()
                self.same(state(desk), after)
                self.refuses(NothingUndone(), desk.redo)

    def test_nothing_done(self):
        desk = sample_desk()
        for _ in range(2):
            self.refuses(NothingDone(), desk.undo)
            self.refuses(NothingUndone(), desk.redo)
        self.same(state(desk)[3:5], (0, 0))

    def test_a_new_deed_removes_what_was_taken_back(self):
        desk = sample_desk()
        for height in (5, 6, 7):
            desk.lift(0, height)
        desk.undo()
        desk.undo()
        # A refused deed leaves what was taken back.
        self.refuses(NoPoint(9), desk.drop, 9)
        self.same([desk.done, desk.undone], [1, 2])
        desk.lift(1, 17)
        self.same([desk.done, desk.undone, desk.raised.heights], [2, 0, (5, 17, 16, 2)])
        self.refuses(NothingUndone(), desk.redo)
        desk.undo()
        desk.undo()
        self.same(desk.raised.heights, tuple(DEEP))

    def test_two_hundred_deeds(self):
        desk = sample_desk()
        states = [state(desk)[:2]]
        for k in range(200):
            desk.lift(k % 3, 100 + k * k)
            states.append(state(desk)[:2])
        for k in range(199, -1, -1):
            desk.undo()
            self.same(state(desk)[:2], states[k])
        for k in range(1, 201):
            desk.redo()
            self.same(state(desk)[:2], states[k])
        self.same([desk.done, desk.undone], [200, 0])


class ManySteps(Case):
    def test_like_the_desk_that_is_told(self):
        words = {}
        for seed in range(40):
            points = ROUND[:3 + seed % 8] if seed % 3 else SAMPLE
            floor = Floor(points)
            heights = bowl_heights(floor, seed)
            desk, told = Desk(floor, heights), Told([(*point, z) for point, z in zip(points, heights)])
            for at, (word, *numbers) in enumerate(drawn_steps(seed, len(points) + 2, 100)):
                if at % 25 == 20:
                    self.limited(desk, told, (at * 7 + seed) % 14)
                wanted = told.do(word, *numbers)
                got = refused_with(getattr(desk, word), *numbers)
                self.same(got.__class__, wanted.__class__)
                self.same(getattr(got, "__dict__", got), getattr(wanted, "__dict__", wanted))
                self.same(state(desk), told.state())
                words.setdefault(word, []).append(got.__class__.__name__)
            self.same([desk.lines, desk.planes, desk.highs],
                      [line_row(desk.raised.floor), plane_row(desk.raised), high_row(desk.raised)])
        self.assertTrue({"int", "TooMany", "TooFar", "OnLine"} <= set(words["add"]))
        self.assertTrue({"NoneType", "NoPoint", "WrongCount"} <= set(words["drop"]))
        self.assertTrue({"NoneType", "NoPoint", "TooFar", "OnLine"} <= set(words["move"]))
        self.assertTrue({"NoneType", "NoPoint", "TooFar", "OnPlane"} <= set(words["lift"]))
        self.assertTrue({"NoneType", "NothingDone"} <= set(words["undo"]) and "NothingUndone" in words["redo"])

    def limited(self, desk, told, limit):
        got = refused_with(desk.set_limit, limit)
        if not 3 <= limit <= 10:
            self.same([got.__class__, got.value], [TooFar, limit])
        elif limit < len(told.places):
            self.same([got.__class__, got.limit], [TooMany, limit])
        else:
            told.limit = limit
            self.same(got, None)
